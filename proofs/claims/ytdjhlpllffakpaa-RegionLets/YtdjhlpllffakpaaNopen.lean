/-
  The program's region: Open.
-/
import Derived.Test.YtdjhlpllffakpaaNplace
import Derived.Test.YtdjhlpllffakpaaNread
set_option maxRecDepth 20000
namespace Go.Proofs.Ytdjhlpllffakpaa
open Go.RowKit

theorem cut_to (a : Option Addr) (N c n : Nat) (hn : n ≤ c) (ha : a = none → c = 0) (hz : ∀ ad, a = some ad → ∃ p, ad = ⟨p, 0, none⟩) (w : World) : (Instr.sliceAt 25 (.slice a N c) none (some (.int .i64 (n : Int))) none).run Try.prog w = .ok (.slice a n c) w := by
  rw [run_sliceAt_slice w 25 _ _ _ _ (by kernel_rfl), run_slice_h w 25 a N c (by kernel_rfl) .i64 n (by omega) (by omega), show Try.prog.elem 25 = 5 by kernel_rfl, size5N, Result.andThen_ok, Int.toNat_natCast]
  unfold sliced
  by_cases hc : c = 0
  · rw [if_pos hc]; simp
  · rw [if_neg hc]
    cases a with
    | none => exact absurd (ha rfl) hc
    | some ad =>
      obtain ⟨p, rfl⟩ := hz ad rfl
      show Result.ok (Value.slice (some ((⟨p, 0, none⟩ : Addr).add (0 * 1))) _ _) w = _
      rw [Addr.add_mid]
      simp
theorem bytes_head {w : World} {a : Option Addr} {n m : Nat} {xs : List Int} (h : Bytes w a n xs) (hm : m ≤ n) : Bytes w a m (xs.take m) := by
  have hn := h.n
  refine ⟨by rw [List.length_take]; omega, ?_, fun z hz => h.fit z (List.mem_of_mem_take hz)⟩
  rcases h.cells with e | ⟨b, off, e, hc⟩
  · exact .inl (by rw [e]; simp)
  · refine .inr ⟨b, off, e, fun k hk => ?_⟩
    rw [List.length_take] at hk
    rw [List.getElem_take]
    exact hc k (by omega)
/-- What an opened slot holds. -/
def opS (L : List Bk) (x z : Int) (h : En) : Sp × List Int := (h.1, (blks L (2, x, z) h.1.1 h.1.2).take h.2)
/-- Behind k slots. -/
structure Oi (w : World) (g : Nat) (x z : Int) (L : List Bk) (hs : List En) (lb k : Nat) (wr : World) : Prop where
  it : ∃ sl : List Sm, RB wr g x z (sl ++ (hs.map mkS).drop k) ∧ sl.map (fun s => (s.sp, s.b)) = (hs.take k).map (opS L x z) ∧ ∀ s ∈ sl, Dt wr s ∧ ∀ ad, s.a = some ad → w.heap.size ≤ ad.block
  ln : LRow wr lb (hs.map (·.2))
  bel : Below w.heap.size w wr
def OpenSay (S : St) (x z : Int) (w : World) (e : Ending) (w' : World) : Prop := Below w.heap.size w w' ∧
  ((S.out = true ∧ e = .returned (.tuple #[.pointer none, .int .i64 8])) ∨ (S.out = false ∧ ¬ HdOk (headS S.l x z) ∧ e = .returned (.tuple #[.pointer none, .int .i64 4])) ∨
   (S.out = false ∧ HdOk (headS S.l x z) ∧ ∃ g F, e = .returned (.tuple #[.pointer (some ⟨g, 0, none⟩), .int .i64 0]) ∧ RGs F w' g (rhoS S.l x z) ∧ ∀ k, F k → w.heap.size ≤ k))
set_option maxHeartbeats 1000000 in
theorem open_c (Fd : Nat → Prop) (d : Nat) (S : St) (x z : Int) (w : World) (hx : I64 x) (hz : I64 z) (hD : PDisk Fd w d S) (hF : ∀ k, Fd k → k < w.heap.size) :
    Calls Try.prog 15 #[.pointer (some ⟨d, 0, none⟩), .int .i64 x, .int .i64 z] w (OpenSay S x z w) := by
  obtain ⟨Post, hPost⟩ : ∃ Post : Ending → World → Prop, Post = OpenSay S x z w := ⟨_, rfl⟩
  rw [← hPost]
  have HP8 : Hid (∀ w', S.out = true → Below w.heap.size w w' → Post (.returned (.tuple #[.pointer none, .int .i64 8])) w') := fun w' h1 h2 => by rw [hPost]; exact ⟨h2, .inl ⟨h1, rfl⟩⟩
  have HP4 : Hid (∀ w', S.out = false → ¬ HdOk (headS S.l x z) → Below w.heap.size w w' → Post (.returned (.tuple #[.pointer none, .int .i64 4])) w') := fun w' h1 h2 h3 => by rw [hPost]; exact ⟨h3, .inr (.inl ⟨h1, h2, rfl⟩)⟩
  have HP0 : Hid (∀ w' g F, S.out = false → HdOk (headS S.l x z) → RGs F w' g (rhoS S.l x z) → (∀ k, F k → w.heap.size ≤ k) → Below w.heap.size w w' → Post (.returned (.tuple #[.pointer (some ⟨g, 0, none⟩), .int .i64 0])) w') := fun w' g F h1 h2 h3 h4 h5 => by rw [hPost]; exact ⟨h5, .inr (.inr ⟨h1, h2, g, F, rfl, h3, h4⟩)⟩
  clear hPost
  obtain ⟨mb, ml, hD0⟩ := hD
  have Hgd : Hid (Good S.l ∧ ∀ b ∈ S.l, ∀ y ∈ b.b, 0 ≤ y ∧ y ≤ 255) := ⟨hD0.ok, hD0.fit⟩
  have HD : Hid (PDisk Fd w d S) := ⟨mb, ml, hD0⟩
  have HF : Hid (∀ k, Fd k → k < w.heap.size) := hF
  have Hx : Hid (I64 x) := hx
  have Hz : Hid (I64 z) := hz
  clear hD0 hF hx hz
  go_enter Try.func15, Try.ntmps15
  go_wp2_with fail
  generalize hw1 : w.alloc _ = w1
  have hal : w1.heap[w.heap.size]? = some (.cells (rgv x z (List.replicate 16 zS)).toArray 73 (0, 0)) := by rw [← hw1]; exact heap_alloc_new w _
  have hb1 : Below w.heap.size w w1 := by rw [← hw1]; exact (Below.refl _ _).alloc (Nat.le_refl _) _
  have HB1 : Hid (RB w1 w.heap.size x z (List.replicate 16 zS)) := ⟨hal, by simp⟩
  have Hb1 : Hid (Below w.heap.size w w1) := hb1
  have HD1 : Hid (PDisk Fd w1 d S) := HD.out.keep (fun k hk => hb1.block k (HF.out k hk))
  have HF1 : Hid (∀ k, Fd k → k < w1.heap.size) := fun k hk => Nat.lt_of_lt_of_le (HF.out k hk) hb1.size
  clear hw1 hal hb1
  refine (rread_c Fd d w.heap.size S x z (List.replicate 16 zS) 0 2 w1 HB1.out HD1.out HF1.out Hx.out Hz.out (by omega) (by omega)).mono ?_
  rintro _ w2 ⟨hb2, ⟨ho, _, rfl⟩ | ⟨ho, a, c, rfl, hO⟩⟩
  · have R := HP8.out w2 ho (Hb1.out.trans (hb2.mono Hb1.out.size))
    clear HP8 HP4 HP0 hb2
    go_wp2
    exact R
  · have hso : S.out = false := ho.elim id (fun h => by omega)
    have hbok := blks_ok Hgd.out.1 Hgd.out.2 (2, x, z) 2 0
    have hlen : (blks S.l (2, x, z) 0 2).length = 64 := by rw [hbok.1]
    have hby : Bytes w2 a 64 (blks S.l (2, x, z) 0 2) := hO.bytes hbok.2 64 hlen
    have hcap : 64 ≤ c := by
      rcases hO.parts with ⟨_, _, e⟩ | ⟨_, _, _, _, _, _, h⟩
      · rw [e] at hlen; simp at hlen
      · omega
    have HB2 : Hid (RB w2 w.heap.size x z (List.replicate 16 zS)) := HB1.out.on hb2
    have Hb2 : Hid (Below w.heap.size w w2) := Hb1.out.trans (hb2.mono Hb1.out.size)
    have HY2 : Hid (Bytes w2 a 64 (blks S.l (2, x, z) 0 2)) := hby
    have Hcap : Hid (64 ≤ c) := hcap
    have Hso : Hid (S.out = false) := hso
    clear hby hcap hO hlen hbok hb2 ho HP8 HB1 Hb1 hso HD1 HF1
    go_wp2_with fail
    refine (place_c w.heap.size x z a c (blks S.l (2, x, z) 0 2) w2 HB2.out HY2.out Hcap.out).mono ?_
    rintro _ w3 ⟨hC3, ⟨hbad, rfl⟩ | ⟨hok, rfl, hB3⟩⟩
    · have hb3 : Below w.heap.size w w3 := Hb2.out.trans (hC3.below (fun k hk => by rw [hk]; exact Nat.le_refl _) Hb2.out.size)
      have hb4 : Below w.heap.size w (w3.alloc (.cells (lvals (List.replicate 16 0)).toArray 76)) := hb3.alloc hb3.size _
      have R := HP4.out _ Hso.out hbad hb4
      have e16 : (lvals (List.replicate 16 0)).toArray = #[.int .i64 0, .int .i64 0, .int .i64 0, .int .i64 0, .int .i64 0, .int .i64 0, .int .i64 0, .int .i64 0, .int .i64 0, .int .i64 0, .int .i64 0, .int .i64 0, .int .i64 0, .int .i64 0, .int .i64 0, .int .i64 0] := by rfl
      rw [e16] at R ⊢
      clear HP4 HP0 hb3 hb4 hC3 e16 HB2 HY2
      go_wp2
      exact R
    · have hb3 : Below w.heap.size w w3 := Hb2.out.trans (hC3.below (fun k hk => by rw [hk]; exact Nat.le_refl _) Hb2.out.size)
      obtain ⟨hs, hhs⟩ : ∃ hs, hs = headS S.l x z := ⟨_, rfl⟩
      have ehs : entS (blks S.l (2, x, z) 0 2) = hs := hhs.symm
      rw [ehs] at hok hB3 ⊢
      have Hhl : Hid (hs.length = 16) := by show _ = _; rw [← ehs]; exact entN_len _
      have Hok : Hid (HdOk hs) := hok
      have Hhs : Hid (hs = headS S.l x z) := hhs
      obtain ⟨Y, hY⟩ : ∃ Y, Y = (lvals (hs.map (·.2))).toArray := ⟨_, rfl⟩
      have HYe : Hid (Y = (lvals (hs.map (·.2))).toArray) := hY
      rw [← hY]
      have Hys : Hid (Y.size = 16) := by show _ = _; rw [hY]; simp [lvals]; exact Hhl.out
      have Hyo : Hid (Y.all (·.oneCell') = true) := by show _ = _; rw [hY]; simp [lvals, Value.oneCell']
      have HB3 : Hid (RB w3 w.heap.size x z (hs.map mkS)) := hB3
      have Hb3 : Hid (Below w.heap.size w w3) := hb3
      clear hhs ehs hok hB3 hb3 hC3 hY HP4 HB2 HY2 Hb2
      go_wp2_with (refine wpList_store_row rfl 76 (.tmp 11) (.tmp 33) rfl w3.heap.size Y rfl rfl 76 _ (heap_alloc_new w3 _) (by rw [Hys.out]; exact size76) (by rw [Hys.out]; rfl) Hyo.out ?_)
      generalize hw4 : (w3.alloc _).setRow w3.heap.size Y = w4
      have hln : LRow w4 w3.heap.size (hs.map (·.2)) := by show _ = _; rw [← HYe.out, ← hw4]; exact setRow_heap _ w3.heap.size _ Y 76 (0, 0) (heap_alloc_new w3 _)
      have hb4 : Below w3.heap.size w3 w4 := by rw [← hw4]; exact below_setRow ((Below.refl _ _).alloc (Nat.le_refl _) _) (Nat.le_refl _)
      have HO0 : Hid (Oi w w.heap.size x z S.l hs w3.heap.size 0 w4) := ⟨⟨[], HB3.out.on hb4, rfl, fun s hs => by simp at hs⟩, hln, Hb3.out.trans (hb4.mono Hb3.out.size)⟩
      obtain ⟨lb, hlb⟩ : ∃ lb, lb = w3.heap.size := ⟨_, rfl⟩
      rw [← hlb] at HO0 ⊢
      have Hlb : Hid (w.heap.size < lb) := by show _ < _; rw [hlb]; exact HB3.out.lt
      clear hw4 hln hb4 HB3 Hb3 Hys Hyo HYe hlb
      go_loopw [38] (fun v wr => ∃ (k : Nat), k ≤ 16 ∧ v = .int .i64 (k : Int) ∧ Hid (Oi w w.heap.size x z S.l hs lb k wr)) (fun v _ => 16 - (intOf v).toNat)
      case atStart => exact ⟨0, Nat.zero_le _, by go_num, HO0⟩
      case round =>
        clear HO0
        obtain ⟨k, hk, rfl, HI⟩ := hrel
        obtain ⟨sl, hR, hmap, hDt⟩ := HI.out.it
        have hsll : sl.length = k := by
          have := congrArg List.length hmap
          rw [List.length_map, List.length_map, List.length_take, Hhl.out] at this
          omega
        by_cases hlt : k < 16
        · have hlt' : (k : Int) < 16 := by omega
          have hkl : k < hs.length := by rw [Hhl.out]; exact hlt
          have hkr : k < (sl ++ (hs.map mkS).drop k).length := by rw [hR.n]; exact hlt
          have hgk : (sl ++ (hs.map mkS).drop k)[k] = mkS hs[k] := by
            rw [List.getElem_append_right (by omega), List.getElem_drop, List.getElem_map]
            congr 2
            omega
          obtain ⟨⟨⟨f, m⟩, n⟩, he⟩ : ∃ h, hs[k] = h := ⟨_, rfl⟩
          have q0 := (hR.cells k hkr).1
          have q1 := (hR.cells k hkr).2.1
          have q2 := (hR.cells k hkr).2.2
          rw [hgk, he] at q0 q1 q2
          simp only [mkS, List.length_nil] at q0 q1 q2
          have hent := Hok.out.ok hs[k] (List.getElem_mem hkl)
          rw [he] at hent
          have hnm : n ≤ 32 * m ∧ f < 1000 ∧ m < 1000 := by
            rcases hent with h | ⟨h1, h2, h3, h4⟩
            · simp only [Prod.mk.injEq] at h
              omega
            · simp only at h1 h2 h3 h4
              unfold needS at h2
              omega
          obtain ⟨hnm1, hf1, hm1⟩ := hnm
          have HR : Hid (RB wr w.heap.size x z (sl ++ (hs.map mkS).drop k)) := hR
          have HD : Hid (PDisk Fd wr d S) := HD.out.keep (fun k hk => HI.out.bel.block k (HF.out k hk))
          have HFw : Hid (∀ k, Fd k → k < wr.heap.size) := fun k hk => Nat.lt_of_lt_of_le (HF.out k hk) HI.out.bel.size
          have Hmap : Hid (sl.map (fun s => (s.sp, s.b)) = (hs.take k).map (opS S.l x z)) := hmap
          have HDt : Hid (∀ s ∈ sl, Dt wr s ∧ ∀ ad, s.a = some ad → w.heap.size ≤ ad.block) := hDt
          have He : Hid (hs[k] = ((f, m), n)) := he
          have Hbe : Hid (Below w.heap.size w wr) := HI.out.bel
          have Hln : Hid (LRow wr lb (hs.map (·.2))) := HI.out.ln
          have Hgk : Hid ((sl ++ (hs.map mkS).drop k)[k] = ⟨f, m, none, 0, []⟩) := by show _ = _; rw [hgk, he]; rfl
          clear hR hmap hDt he hgk hent HI HP0
          go_wp2_with fail
          refine (rread_c Fd d w.heap.size S x z _ f m wr HR.out HD.out HFw.out Hx.out Hz.out hf1 hm1).mono ?_
          rintro _ w5 ⟨hb5, ⟨ho, _, _⟩ | ⟨_, a5, c5, rfl, hO5⟩⟩
          · rw [Hso.out] at ho; cases ho
          have hbok := blks_ok Hgd.out.1 Hgd.out.2 (2, x, z) m f
          have hby5 : Bytes w5 a5 (32 * m) (blks S.l (2, x, z) f m) := hO5.bytes hbok.2 _ hbok.1
          have hc5 : 32 * m ≤ c5 ∧ (a5 = none → c5 = 0) ∧ ∀ ad, a5 = some ad → ∃ p, ad = ⟨p, 0, none⟩ ∧ wr.heap.size ≤ p := by
            rcases hO5.parts with ⟨e1, e2, e3⟩ | ⟨p, e1, e2, _, _, _, h⟩
            · have : 32 * m = 0 := by rw [← hbok.1, e3]; rfl
              exact ⟨by omega, (fun _ => e2), (fun ad had => by rw [e1] at had; cases had)⟩
            · exact ⟨by rw [← hbok.1]; exact h, (fun h0 => by rw [e1] at h0; cases h0), (fun ad had => by rw [e1] at had; cases had; exact ⟨p, rfl, e2⟩)⟩
          obtain ⟨hc5a, hc5b, hc5c⟩ := hc5
          have hcut := cut_to a5 (32 * m) c5 n (by omega) hc5b (fun ad had => (hc5c ad had).imp (fun p hp => hp.1))
          have HR5 : Hid (RB w5 w.heap.size x z (sl ++ (hs.map mkS).drop k)) := HR.out.on hb5
          have hq5 : w5.cell? ⟨lb, k, none⟩ = some (.int .i64 (n : Int)) := by
            have := (Hln.out.on hb5).at (i := k) (by rw [List.length_map]; exact hkl)
            rw [this, List.getElem_map, He.out]
          have q25 := cell_below q2 hb5
          have f25 := HR5.out.free (2 + k * 3 + 2)
          have HO5 : Hid (Oi w w.heap.size x z S.l hs lb (k + 1) ((w5.drewN 1).setCell ⟨w.heap.size, 2 + k * 3 + 2, none⟩ (.slice a5 n c5))) := by
            have hO : Only w.heap.size w5 (w5.setCell ⟨w.heap.size, 2 + k * 3 + 2, none⟩ (.slice a5 n c5)) := (Only.refl _ _).set _ _
            have hdl : ((blks S.l (2, x, z) f m).take n).length = n := by rw [List.length_take, hbok.1]; omega
            have hset := HR5.out.setDat k a5 c5 ((blks S.l (2, x, z) f m).take n) hkr
            rw [hdl] at hset
            rw [Hgk.out] at hset
            have e : (sl ++ (hs.map mkS).drop k).set k ⟨f, m, a5, c5, (blks S.l (2, x, z) f m).take n⟩ = (sl ++ [⟨f, m, a5, c5, (blks S.l (2, x, z) f m).take n⟩]) ++ (hs.map mkS).drop (k + 1) := by
              rw [List.set_append_right _ _ (by omega), hsll, Nat.sub_self, List.drop_eq_getElem_cons (show k < (hs.map mkS).length by rw [List.length_map]; exact hkl), List.set_cons_zero, List.append_assoc]
              rfl
            simp only at hset
            rw [e] at hset
            have hbel : Below w.heap.size w (w5.setCell ⟨w.heap.size, 2 + k * 3 + 2, none⟩ (.slice a5 n c5)) := (Hbe.out.trans (hb5.mono Hbe.out.size)).setCell (p := ⟨w.heap.size, 2 + k * 3 + 2, none⟩) (Nat.le_refl _) _
            refine ⟨⟨_, hset.keep rfl, ?_, fun s hs' => ?_⟩, ?_, ⟨hbel.os, hbel.tape, hbel.output, hbel.size, hbel.block⟩⟩
            · rw [List.map_append, Hmap.out, List.take_succ_eq_append_getElem hkl, List.map_append, He.out]
              rfl
            · have hD5 : ∀ s, Dt w5 s → Dt ((w5.drewN 1).setCell ⟨w.heap.size, 2 + k * 3 + 2, none⟩ (.slice a5 n c5)) s := fun s hd => by
                have := bytes_away HR5.out hd.by_ _ hO
                exact ⟨⟨this.n, this.cells, this.fit⟩, hd.nil, hd.cap⟩
              rcases List.mem_append.1 hs' with h | h
              · exact ⟨hD5 s ((HDt.out s h).1.on hb5), (HDt.out s h).2⟩
              · rw [List.mem_singleton.1 h]
                refine ⟨hD5 _ ⟨?_, hc5b, ?_⟩, fun ad had => ?_⟩
                · simp only
                  rw [hdl]
                  exact bytes_head hby5 hnm1
                · simp only
                  rw [hdl]
                  omega
                · obtain ⟨p, rfl, hp⟩ := hc5c ad had
                  have := Hbe.out.size
                  simp only
                  omega
            · exact (hO.block lb (by have := Hlb.out; omega)).trans (Hln.out.on hb5)
          have hq6 : (w5.drewN 1).cell? ⟨lb, k, none⟩ = some (.int .i64 (n : Int)) := hq5
          have q26 : (w5.drewN 1).cell? ⟨w.heap.size, 2 + k * 3 + 2, none⟩ = some (.slice none 0 0) := q25
          have f26 : (w5.drewN 1).frozen? ⟨w.heap.size, 2 + k * 3 + 2, none⟩ = false := f25
          clear hO5 hby5 hb5 hbok hc5c HR5 HR HD HFw Hmap HDt He Hbe Hln Hgk hq5 q25 f25 q0 q1 q2
          go_wp2_with fail
          refine wp_region_tail 11 (by kernel_rfl) (by kernel_rfl) ?_
          simp only [List.take_succ_cons, List.take_zero, List.drop_succ_cons, List.drop_zero]
          repeat still_step
          refine wpStill_nil ?_
          generalize w5.drewN 1 = w6 at *
          go_wp2
          go_roundw
          case rel => exact ⟨k + 1, by omega, by go_num, HO5⟩
          case measure => simp [intOf]; omega
        · obtain rfl : k = 16 := by omega
          have hge : ¬ ((16 : Nat) : Int) < 16 := by omega
          have e1 : (hs.map mkS).drop 16 = [] := List.drop_of_length_le (by rw [List.length_map, Hhl.out]; exact Nat.le_refl _)
          have e2 : hs.take 16 = hs := List.take_of_length_le (by rw [Hhl.out]; exact Nat.le_refl _)
          rw [e1, List.append_nil] at hR
          rw [e2] at hmap
          have hsp : sl.map Sm.sp = (rhoS S.l x z).sp := by
            have := congrArg (List.map Prod.fst) hmap
            rw [List.map_map, List.map_map] at this
            show sl.map Sm.sp = (headS S.l x z).map (·.1)
            rw [← Hhs.out]
            exact this
          have hdt : sl.map Sm.b = (rhoS S.l x z).dat := by
            have := congrArg (List.map Prod.snd) hmap
            rw [List.map_map, List.map_map] at this
            show sl.map Sm.b = (headS S.l x z).map (fun h => (blks S.l (2, x, z) h.1.1 h.1.2).take h.2)
            rw [← Hhs.out]
            exact this
          have hok : HdOk (headS S.l x z) := by rw [← Hhs.out]; exact Hok.out
          have R := HP0.out wr w.heap.size (fun k => w.heap.size ≤ k ∧ k < wr.heap.size) Hso.out hok
            ⟨⟨sl, hR, fun s hs' => ⟨(hDt s hs').1, fun hne => by
                rcases (hDt s hs').1.by_.cells with e | ⟨b, off, e, hc⟩
                · exact absurd e hne
                · exact ⟨b, off, e, (hDt s hs').2 ⟨b, off, none⟩ e, World.block_lt_of_cell? wr _ (hc 0 (List.length_pos_iff.2 hne))⟩⟩, hsp, hdt⟩, rho_good Hgd.out.1 Hgd.out.2 hok, Hx.out, Hz.out, ⟨Nat.le_refl _, hR.lt⟩, fun k hk => hk.2⟩ (fun k hk => hk.1) HI.out.bel
          clear HP0 hR hmap hDt HI hsp hdt hok
          go_wp2
          exact R
end Go.Proofs.Ytdjhlpllffakpaa
