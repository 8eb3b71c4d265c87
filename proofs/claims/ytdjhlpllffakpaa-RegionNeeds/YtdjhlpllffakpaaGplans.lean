/-
  RegionPlans, walked over any region that keeps what is asked.
-/
import Derived.Test.YtdjhlpllffakpaaGalone
set_option maxRecDepth 20000
namespace Go.Proofs.Ytdjhlpllffakpaa
open Go.RowKit

/-- A list of changes that came in. -/
structure Gc where
  a : Option Addr
  n : Nat
  c : Nat
  l : List Cg
structure GcAt (w : World) (b off k : Nat) (o : Gc) : Prop where
  c0 : w.cell? ⟨b, off + k, none⟩ = some (.slice o.a o.n o.c)
  len : o.l.length = o.n
  le : o.n ≤ maxLen
  at_ : CgsAt w o.a o.l
def GcsAt (w : World) (a : Option Addr) (l : List Gc) : Prop := ∀ k (h : k < l.length), ∃ b off, a = some ⟨b, off, none⟩ ∧ GcAt w b off k l[k]
theorem GcsAt.on {w w' : World} {a : Option Addr} {l : List Gc} (H : GcsAt w a l) (hb : Below w.heap.size w w') : GcsAt w' a l := fun k h => by
  obtain ⟨b, off, e, h1⟩ := H k h
  exact ⟨b, off, e, cell_below h1.c0 hb, h1.len, h1.le, h1.at_.on hb⟩
def sl0 : List Sl := List.replicate 16 ⟨none, 0, 0, []⟩
theorem sl0_dat : sl0.map (·.b) = dat0 := rfl
theorem made_slices : madeCells #[.slice none 0 0] 16 = (slVals sl0).toArray := by kernel_rfl
/-- make of sixteen slots. -/
theorem wpList_make_slots (w : World) {ops : Array Oper} {rest : List Oper} {o : Oper} {a : Act} {Q : Exit → Act → World → Prop}
    (hg : o.guard = none) (l c : Operand) (hop : o.op = Op.makeSlice 39 l c) (hl : a.eval l = .int .i64 16) (hc : a.eval c = .int .i64 16)
    (hK : ∀ w', Hid (w'.heap[w.heap.size]? = some (.cells (slVals sl0).toArray 25 (0, 0))) → Below w.heap.size w w' → wpList Try.prog ops Q rest (a.put o.dst (.slice (some ⟨w.heap.size, 0, none⟩) 16 16)) w') :
    wpList Try.prog ops Q (o :: rest) a w := by
  obtain ⟨i, hi, hz0, hz1, hz2⟩ := info_parts info25
  refine wpList_make_full w hg l c 39 hop w.heap.size 25 i (.slice none 0 0) 1 Try.underlying39 hi hz0 hz1 .i64 .i64 16 16 16 hl hc rfl rfl (by rw [hz2]; omega) (by unfold maxLen; omega) (Nat.le_refl _) ?_
  intro w' hown hgrow
  refine hK w' ?_ ((Below.refl _ _).grown hgrow (Nat.le_refl _) (by simp))
  have := own_full hown
  show _ = _
  rw [this]
  show some (Obj.cells (madeCells #[Value.slice none 0 0] 16) 25 (0, 0)) = _
  rw [made_slices]
theorem sn_sl0 {A : Nat → Prop} {w : World} {nb : Nat} (h : w.heap[nb]? = some (.cells (slVals sl0).toArray 25 (0, 0))) (hA : ¬ A nb) : Sn A w (some ⟨nb, 0, none⟩) sl0 := by
  refine ⟨fun k hk => ?_, fun b off e => by cases e; exact hA, fun k hk => .inl ?_⟩
  · have e : sl0[k] = ⟨none, 0, 0, []⟩ := List.getElem_replicate ..
    refine ⟨nb, 0, rfl, ?_⟩
    rw [e]
    refine ⟨?_, Bytes.none w, by decide⟩
    rw [cell_of_row w nb (0 + k) _ 25 (0, 0) h, Nat.zero_add]
    simp only [slVals, List.getElem?_toArray, List.getElem?_map, List.getElem?_eq_getElem hk, e]
    rfl
  · have e : sl0[k] = ⟨none, 0, 0, []⟩ := List.getElem_replicate ..
    rw [e]
theorem rtells (J : RSpec) {A B : Nat → Prop} {w : World} {g : Nat} {ρ : Rho} {sa : Option Addr} {sc : Nat} {l : List Sl} (hR : Rn J A w g ρ) (hS : Sn B w sa l) (hl : l.length = 16) (hd : ρ.dat = l.map (·.b)) :
    Calls Try.prog 17 #[.pointer (some ⟨g, 0, none⟩), .slice sa 16 sc] w fun e w' => e = .returned (.bool true) ∧ Below w.heap.size w w' := by
  obtain ⟨F, hG, _⟩ := hR.it
  exact tells_c J F g ρ sa sc l w hG hS.at_ hl hd
/-- On the way through the lists. -/
structure Pl (J : RSpec) (w1 : World) (d fb : Nat) (x z : Int) (i g : Nat) (sa : Option Addr) (l : List Sl) (wr : World) : Prop where
  it : ∃ Fd S sp, Dn w1 wr Fd d S ∧ Rn J Fd wr g ⟨x, z, sp, l.map (·.b)⟩ ∧ Sn Fd wr sa l ∧ OnD S.l ⟨x, z, sp, l.map (·.b)⟩ ∧ S.writes ≤ 40 * i ∧ ¬ Fd fb
  len : l.length = 16
  file : wr.heap[fb]? = some (.cells #[.int .i64 2, .int .i64 x, .int .i64 z] 29 (0, 0))

set_option maxHeartbeats 4000000 in
theorem regionPlans_walk (J : RSpec) (la : Option Addr) (ln lc : Nat) (x z : Int) (gs : List Gc) (w : World) (hg : GcsAt w la gs) (hgl : gs.length = ln) (hln : ln ≤ maxLen) (hx : I64 x) (hz : I64 z) :
    Calls Try.prog 5 #[.slice la ln lc, .int .i64 x, .int .i64 z] w fun e w' => e = .returned (.bool true) ∧ Below w.heap.size w w' := by
  obtain ⟨Post, hPost⟩ : ∃ Post : Ending → World → Prop, Post = fun e w' => e = .returned (.bool true) ∧ Below w.heap.size w w' := ⟨_, rfl⟩
  rw [← hPost]
  have HP : Hid (∀ w', Below w.heap.size w w' → Post (.returned (.bool true)) w') := fun w' h => by rw [hPost]; exact ⟨rfl, h⟩
  clear hPost
  have HG : Hid (GcsAt w la gs) := hg
  have Hgl : Hid (gs.length = ln) := hgl
  have hln' : (ln : Int) ≤ 9223372036854775807 := by unfold maxLen at hln; omega
  clear hg hgl hln
  have hbl : Blank St.new.l (2, x, z) := blank_nil _
  go_enter Try.func5, Try.ntmps5
  go_wp2_with fail
  refine (awake_c J w).mono ?_
  rintro _ w1 ⟨rfl, hb1⟩
  go_wp2_with fail
  refine (dnew w1).mono ?_
  rintro _ w2 ⟨d, Fd, rfl, hD2, hb2⟩
  by_cases hlen : 60 < (ln : Int)
  · have R := HP.out w2 (hb1.trans (hb2.mono hb1.size))
    clear HP hb2 hD2
    go_wp2
    exact R
  clear hb2
  go_wp2_with fail
  have hb3 : Below w2.heap.size w2 (w2.alloc (.cells #[.int .i64 2, .int .i64 x, .int .i64 z] 29)) := (Below.refl _ _).alloc (Nat.le_refl _) _
  have hF3 : (w2.alloc (.cells #[.int .i64 2, .int .i64 x, .int .i64 z] 29)).heap[w2.heap.size]? = some (.cells #[.int .i64 2, .int .i64 x, .int .i64 z] 29 (0, 0)) := heap_alloc_new w2 _
  have hD3 := hD2.on hb3
  obtain ⟨fb, hfb⟩ : ∃ fb, fb = w2.heap.size := ⟨_, rfl⟩
  have hnf : ¬ Fd fb := fun h => by have := hD2.lt fb h; omega
  rw [← hfb] at hF3 ⊢
  clear hb3 hD2 hfb
  generalize w2.alloc (.cells #[.int .i64 2, .int .i64 x, .int .i64 z] 29) = w3 at *
  refine (dopen J hD3 x z hx hz (ok_blank hbl)).mono ?_
  rintro _ w4 ⟨g, rfl, hb4, hR4⟩
  rw [rho_blank hbl] at hR4
  have hD4 := hD3.on hb4
  have hF4 := (hb4.block fb (Array.getElem?_eq_some_iff.1 hF3).1).trans hF3
  clear hb4 hD3 hF3
  go_wp2_with (at_make; refine wpList_make_slots _ rfl _ _ rfl rfl rfl ?_; intro w5 HM5 hb5)
  have hD5 := hD4.on hb5
  have hS5 : Sn Fd w5 (some ⟨w4.heap.size, 0, none⟩) sl0 := sn_sl0 HM5.out (fun h => by have := hD4.lt _ h; omega)
  have HW0 : Hid (Pl J w1 d fb x z 0 g (some ⟨w4.heap.size, 0, none⟩) sl0 w5) := ⟨⟨Fd, St.new, sp0, hD5, hR4.on hb5, hS5, on_blank hbl, by decide, hnf⟩, by decide, (hb5.block fb (Array.getElem?_eq_some_iff.1 hF4).1).trans hF4⟩
  have Hb1 : Hid (Below w.heap.size w w1) := hb1
  clear HM5 hb5 hD4 hD5 hR4 hF4 hS5 hnf hb1
  go_loopw [10, 11, 12, 13] (fun rv ev sv iv wr => ∃ (i g : Nat) (sa : Option Addr) (sc : Nat) (l : List Sl), i ≤ ln ∧ rv = .pointer (some ⟨g, 0, none⟩) ∧ ev = .int .i64 0 ∧ sv = .slice sa 16 sc ∧ iv = .int .i64 (i : Int) ∧ Hid (Pl J w1 d fb x z i g sa l wr)) (fun _ _ _ iv _ => ln - (intOf iv).toNat)
  case atStart => exact ⟨0, g, _, 16, sl0, Nat.zero_le _, rfl, rfl, rfl, rfl, HW0.out⟩
  case round =>
    clear HW0
    obtain ⟨i, gr, sa, sc, l, hi, rfl, rfl, rfl, rfl, HW⟩ := hrel
    obtain ⟨Fr, S, sp, hD, hR, hS, hon, hwr, hnf⟩ := HW.out.it
    have hl16 := HW.out.len
    have hfile := HW.out.file
    have hbw : Below w.heap.size w wr := Hb1.out.trans (hD.bel.mono Hb1.out.size)
    by_cases hlt : i < ln
    · have hlt' : (i : Int) < (ln : Int) := by omega
      obtain ⟨lb, lo, rfl, hgc⟩ := (HG.out.on hbw) i (by rw [Hgl.out]; exact hlt)
      obtain ⟨⟨ga, gn, gc, cs⟩, hgi⟩ : ∃ c, gs[i]'(by rw [Hgl.out]; exact hlt) = c := ⟨_, rfl⟩
      rw [hgi] at hgc
      have c0 := hgc.c0
      have hcl := hgc.len
      have hcm := hgc.le
      have hca := hgc.at_
      simp only at c0 hcl hcm hca
      have c1 : ∀ w', Below wr.heap.size wr w' → w'.cell? ⟨lb, lo + i, none⟩ = some (.slice ga gn gc) := fun w' h => cell_below c0 h
      have Hc1 : Hid (∀ w', Below wr.heap.size wr w' → w'.cell? ⟨lb, lo + i, none⟩ = some (.slice ga gn gc)) := c1
      clear c1 hgc hgi
      go_wp2_with fail
      refine (dplan J hD hR hca hcl hcm).mono ?_
      rw [show (Rho.mk x z sp (l.map (·.b))).dat = l.map (·.b) from rfl]
      rintro _ w6 ⟨hb6, ⟨h0, pa, pc, rfl⟩ | ⟨h0, pa, pc, gn2, sp2, ps, rfl, hN6, hP6, hok, hput⟩⟩
      · have c6 := Hc1.out w6 hb6
        have hD6 := hD.on hb6
        have hR6 := hR.on hb6
        have hS6 := hS.on hb6
        go_wp2_with fail
        refine (rplan_c Fr sa sc l ga gn gc cs w6 hS6 hD6.lt hl16 (hca.on hb6) hcl hcm).mono ?_
        rintro _ w7 ⟨hb7, ⟨_, rfl⟩ | ⟨h1, _⟩⟩
        case inr => exact absurd h1 h0
        have hD7 := hD6.on hb7
        have hR7 := hR6.on hb7
        have hS7 := hS6.on hb7
        generalize (planS (l.map (·.b)) (cs.map Cg.cs)).1 = er at *
        have hne : (er == 0) = false := by simpa using h0
        have hne2 : (er != 0) = true := by simpa using h0
        have hee : (er == er) = true := by simp
        have hee2 : (er != er) = false := by simp
        go_wp2_with fail
        refine (rtells J hR7 hS7 hl16 rfl).mono ?_
        rintro _ w8 ⟨rfl, hb8⟩
        have HW8 : Hid (Pl J w1 d fb x z (i + 1) gr sa l w8) := ⟨⟨Fr, S, sp, hD7.on hb8, hR7.on hb8, hS7.on hb8, hon, by omega, hnf⟩, hl16, (hb8.block fb (Array.getElem?_eq_some_iff.1 ((hb7.block fb (Array.getElem?_eq_some_iff.1 ((hb6.block fb (Array.getElem?_eq_some_iff.1 hfile).1).trans hfile)).1).trans ((hb6.block fb (Array.getElem?_eq_some_iff.1 hfile).1).trans hfile))).1).trans ((hb7.block fb (Array.getElem?_eq_some_iff.1 ((hb6.block fb (Array.getElem?_eq_some_iff.1 hfile).1).trans hfile)).1).trans ((hb6.block fb (Array.getElem?_eq_some_iff.1 hfile).1).trans hfile))⟩
        clear HP hD hR hS hD6 hR6 hS6 hD7 hR7 hS7 hb6 hb7 hb8 hon hfile HW Hc1 c0 c6 hca hbw
        go_wp2
        go_roundw
        case rel => exact ⟨i + 1, gr, sa, sc, l, by omega, rfl, rfl, rfl, by go_num, HW8.out⟩
        case measure => simp [intOf]; omega
      · have c6 := Hc1.out w6 hb6
        have hD6 := hD.on hb6
        have hR6 := hR.on hb6
        have hS6 := hS.on hb6
        have hf6 := (hb6.block fb (Array.getElem?_eq_some_iff.1 hfile).1).trans hfile
        obtain ⟨np, hnp⟩ : ∃ np, np = ps.length := ⟨_, rfl⟩
        have Hnp : Hid (np = ps.length) := hnp
        rw [← hnp]
        clear hnp
        go_wp2_with fail
        refine (rplan_c Fr sa sc l ga gn gc cs w6 hS6 hD6.lt hl16 (hca.on hb6) hcl hcm).mono ?_
        rintro _ w7 ⟨hb7, ⟨h1, _⟩ | ⟨_, ob, oc, hb, l2, rfl, hO7, hl2, hd2⟩⟩
        case inl => exact absurd h0 h1
        have hD7 := hD6.on hb7
        have hR7 := hR6.on hb7
        have hS7 := hS6.on hb7
        have hN7 := hN6.on hb7
        have hP7 := hP6.on hb7
        have hT7 : Sn Fr w7 (some ⟨ob, 0, none⟩) l2 := hO7.sn hD6.lt
        have hf7 := (hb7.block fb (Array.getElem?_eq_some_iff.1 hf6).1).trans hf6
        rw [← hd2] at hN7 hput
        have Hon : Hid (OnD (putAll (2, x, z) S.l ps) ⟨x, z, sp2, l2.map (·.b)⟩) := hput S.l hD.good hon
        clear hD hR hS hD6 hR6 hS6 hN6 hP6 hO7 hb6 hb7 hput hon hca c0 c6 Hc1 hf6 hfile h0 hd2
        go_wp2_with fail
        refine (rtells J hR7 hS7 hl16 rfl).mono ?_
        rintro _ w8 ⟨rfl, hb8⟩
        have hD8 := hD7.on hb8
        have hN8 := hN7.on hb8
        have hP8 := hP7.on hb8
        have hT8 := hT7.on hb8
        have hf8 := (hb8.block fb (Array.getElem?_eq_some_iff.1 hf7).1).trans hf7
        have f0 : w8.cell? ⟨fb, 0, none⟩ = some (.int .i64 2) := (cell_of_row w8 _ 0 _ 29 (0, 0) hf8).trans rfl
        have f1 : w8.cell? ⟨fb, 1, none⟩ = some (.int .i64 x) := (cell_of_row w8 _ 1 _ 29 (0, 0) hf8).trans rfl
        have f2 : w8.cell? ⟨fb, 2, none⟩ = some (.int .i64 z) := (cell_of_row w8 _ 2 _ 29 (0, 0) hf8).trans rfl
        clear hD7 hR7 hS7 hN7 hP7 hT7 hb8 hf7
        go_wp2_with fail
        rw [Hnp.out]
        refine (dwrites hD8 (f := (2, x, z)) (pc := pc) ⟨by unfold I64; omega, hx, hz⟩ (by omega) hP8 hok).mono ?_
        rintro _ w9 ⟨rfl, Fd2, S2, hD9, hst9, hl9, hw9⟩
        have hN9 := hN8.stp hst9
        have hT9 := hT8.stp hst9 (by omega)
        have hf9 := (hst9.block fb (Array.getElem?_eq_some_iff.1 hf8).1 hnf)
        have hf9' := hf9.1.trans hf8
        have hnf9 := hf9.2
        clear hD8 hN8 hP8 hT8 hst9 hf8 hf9 f0 f1 f2
        go_wp2_with fail
        refine (rtells J hN9 hT9 hl2 rfl).mono ?_
        rintro _ w10 ⟨rfl, hb10⟩
        have hD10 := hD9.on hb10
        have hN10 := hN9.on hb10
        have hT10 := hT9.on hb10
        have hf10 := (hb10.block fb (Array.getElem?_eq_some_iff.1 hf9').1).trans hf9'
        have hop := open_on (L := S2.l) hN10.good.1 (by rw [hl9]; exact Hon.out)
        clear hD9 hN9 hT9 hb10 hf9'
        go_wp2_with fail
        refine (dopen J hD10 x z hx hz hop.1).mono ?_
        rintro _ w11 ⟨g3, rfl, hb11, hR11⟩
        rw [hop.2] at hR11
        have hD11 := hD10.on hb11
        have hN11 := hN10.on hb11
        have hT11 := hT10.on hb11
        have hf11 := (hb11.block fb (Array.getElem?_eq_some_iff.1 hf10).1).trans hf10
        clear hD10 hN10 hT10 hb11 hf10 hop
        go_wp2_with fail
        refine (rsame J hR11 hN11 rfl rfl).mono ?_
        rintro _ w12 ⟨rfl, hb12⟩
        have HW12 : Hid (Pl J w1 d fb x z (i + 1) g3 (some ⟨ob, 0, none⟩) l2 w12) := ⟨⟨Fd2, S2, sp2, hD11.on hb12, hR11.on hb12, hT11.on hb12, by rw [hl9]; exact Hon.out, by omega, hnf9⟩, hl2, (hb12.block fb (Array.getElem?_eq_some_iff.1 hf11).1).trans hf11⟩
        clear HP hD11 hR11 hN11 hT11 hb12 hf11 Hon hok HW hbw
        go_wp2
        go_roundw
        case rel => exact ⟨i + 1, g3, _, oc, l2, by omega, rfl, rfl, rfl, by go_num, HW12.out⟩
        case measure => simp [intOf]; omega
    · obtain rfl : i = ln := by omega
      have hge : ¬ (i : Int) < (i : Int) := by omega
      have R := HP.out wr hbw
      clear HP hD hR hS HW hon hfile
      go_wp2
      exact R
end Go.Proofs.Ytdjhlpllffakpaa
