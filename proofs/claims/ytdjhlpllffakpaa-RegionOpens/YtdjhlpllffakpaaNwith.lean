/-
  The program's region: apart.
  The program's region: fits.
  The program's region: with.
-/
import Derived.Test.YtdjhlpllffakpaaNblk
import Derived.Test.YtdjhlpllffakpaaGplan
set_option maxRecDepth 20000
namespace Go.Proofs.Ytdjhlpllffakpaa
section
open Go.RowKit

theorem row_atT {w : World} {tb : Nat} {t : TypeId} {T : List Bool} (H : w.heap[tb]? = some (.cells (bvals T) t (0, 0))) {i : Nat} (hi : i < T.length) : w.cell? ⟨tb, i, none⟩ = some (.bool (T.getD i false)) := by
  rw [cell_of_row w tb i _ t (0, 0) H, List.getD_eq_getElem?_getD, List.getElem?_eq_getElem hi]
  simp [bvals, hi]
theorem row_setT {w : World} {tb : Nat} {t : TypeId} {T : List Bool} (H : w.heap[tb]? = some (.cells (bvals T) t (0, 0))) (i : Nat) (b : Bool) : (w.setCell ⟨tb, i, none⟩ (.bool b)).heap[tb]? = some (.cells (bvals (T.set i b)) t (0, 0)) := by
  rw [heap_setCell_same w tb i _ t _ H]
  simp [bvals]
set_option maxHeartbeats 1000000 in
theorem apart_c (d : List (List Int)) (a : Option Addr) (n c : Nat) (l : List Cg) (w : World) (hC : CgsAt w a l) (hn : l.length = n) (hM : n ≤ maxLen) :
    Calls Try.prog 32 #[.slice a n c] w fun e w' => e = .returned (.bool (chgAll d [] (l.map Cg.cs)).isSome) ∧ Below w.heap.size w w' := by
  obtain ⟨Post, hPost⟩ : ∃ Post : Ending → World → Prop, Post = fun e w' => e = .returned (.bool (chgAll d [] (l.map Cg.cs)).isSome) ∧ Below w.heap.size w w' := ⟨_, rfl⟩
  rw [← hPost]
  have HP : Hid (∀ b w', (chgAll d [] (l.map Cg.cs)).isSome = b → Below w.heap.size w w' → Post (.returned (.bool b)) w') := fun b w' h1 h2 => by rw [hPost]; exact ⟨by rw [h1], h2⟩
  clear hPost
  have HC : Hid (CgsAt w a l) := hC
  have Hn : Hid (l.length = n) := hn
  have hM' : n ≤ 9223372036854775807 := by unfold maxLen at hM; omega
  clear hC hn hM
  have Hb1 : Hid (Below w.heap.size w (w.alloc (.cells (bvals (hadR [])) 96))) := (Below.refl _ _).alloc (Nat.le_refl _) _
  have Hh1 : Hid ((w.alloc (.cells (bvals (hadR [])) 96)).heap[w.heap.size]? = some (.cells (bvals (hadR [])) 96 (0, 0))) := heap_alloc_new w _
  have e16 : bvals (hadR []) = #[.bool false, .bool false, .bool false, .bool false, .bool false, .bool false, .bool false, .bool false, .bool false, .bool false, .bool false, .bool false, .bool false, .bool false, .bool false, .bool false] := by rfl
  rw [e16] at Hb1 Hh1
  go_enter Try.func32, Try.ntmps32
  go_wp2_with fail
  generalize w.alloc (.cells #[.bool false, .bool false, .bool false, .bool false, .bool false, .bool false, .bool false, .bool false, .bool false, .bool false, .bool false, .bool false, .bool false, .bool false, .bool false, .bool false] 96) = w1 at *
  rw [← e16] at Hh1
  clear e16
  go_loopw [8] (fun v wr => ∃ (j : Nat) (dj : List (List Int)) (hd : List Nat), j ≤ n ∧ v = .int .i64 (j : Int) ∧ Hid (wr.heap[w.heap.size]? = some (.cells (bvals (hadR hd)) 96 (0, 0))) ∧ Hid (Below w.heap.size w wr) ∧ Hid ((chgAll d [] (l.map Cg.cs)).isSome = (chgAll dj hd ((l.map Cg.cs).drop j)).isSome)) (fun v _ => n - (intOf v).toNat)
  case atStart => exact ⟨0, d, [], Nat.zero_le _, by go_num, Hh1, Hb1, rfl⟩
  case round =>
    clear Hh1 Hb1
    obtain ⟨j, dj, hd, hj, rfl, Hh, HBe, HE⟩ := hrel
    by_cases hlt : j < n
    · have hlt' : (j : Int) < (n : Int) := by omega
      have hjl : j < l.length := by rw [Hn.out]; exact hlt
      obtain ⟨cb, co, rfl, hc⟩ := (HC.out.on HBe.out) j hjl
      have hdr : (l.map Cg.cs).drop j = l[j].cs :: (l.map Cg.cs).drop (j + 1) := by
        rw [List.drop_eq_getElem_cons (by rw [List.length_map]; exact hjl), List.getElem_map]
      have hE := HE.out
      rw [hdr] at hE
      obtain ⟨⟨s, da, dn, dc, db⟩, hci⟩ : ∃ c, l[j] = c := ⟨_, rfl⟩
      rw [hci] at hc hE
      have c0 := hc.c0
      have c1 := hc.c1
      simp only at c0 c1
      obtain ⟨hs1, hs2⟩ := hc.bd
      simp only at hs1 hs2
      have Hb2 : Hid (Below w.heap.size w (wr.alloc (.cells #[.int .i64 s, .slice da dn dc] 56))) := HBe.out.alloc HBe.out.size _
      have hbl : w.heap.size < wr.heap.size := (Array.getElem?_eq_some_iff.1 Hh.out).1
      clear hdr hci hc HE
      by_cases hk : 0 ≤ s ∧ s < 16
      · obtain ⟨S, rfl⟩ := Int.eq_ofNat_of_zero_le hk.1
        have hS16 : S < 16 := by omega
        have hS' : (S : Int) < 16 := by omega
        have hat := row_atT Hh.out (i := S) (by rw [hadR_len]; exact hS16)
        rw [hadR_at hd hS16] at hat
        have hfr : wr.frozen? ⟨w.heap.size, S, none⟩ = false := frozen_of_row wr _ _ _ 96 Hh.out
        have hwl : w.heap.size ≠ wr.heap.size := by omega
        by_cases hin : S ∈ hd
        · rw [decide_eq_true hin] at hat
          have R := HP.out false _ (by rw [hE, chg_bad (c := Cg.cs ⟨S, da, dn, dc, db⟩) (fun h => h.2.2 (by simpa [Cg.cs] using hin))]; rfl) Hb2.out
          clear HP hE HBe Hb2 Hh hk
          go_wp2_with (go_at_call 37; refine (gknown_c (S : Int) _).mono ?_; rw [decide_eq_true (show 0 ≤ (S : Int) ∧ (S : Int) < 16 by omega)]; rintro _ w2 ⟨rfl, hw⟩; replace hw := hw.symm; subst hw)
          exact R
        · rw [decide_eq_false hin] at hat
          have hE2 := hE.trans (congrArg Option.isSome (chg_ok (c := Cg.cs ⟨S, da, dn, dc, db⟩) ⟨hk.1, hk.2, by simpa [Cg.cs] using hin⟩))
          have HE2 : Hid ((chgAll d [] (l.map Cg.cs)).isSome = (chgAll (dj.set S db) (S :: hd) ((l.map Cg.cs).drop (j + 1))).isSome) := hE2
          have Hh2 : Hid (((wr.setCell ⟨w.heap.size, S, none⟩ (.bool true)).alloc (.cells #[.int .i64 (S : Int), .slice da dn dc] 56)).heap[w.heap.size]? = some (.cells (bvals (hadR (S :: hd))) 96 (0, 0))) := by
            show _ = _
            rw [heap_alloc_old _ _ (by simpa [World.setCell] using hbl), row_setT Hh.out S true, hadR_set hd hS16]
          have Hb3 : Hid (Below w.heap.size w ((wr.setCell ⟨w.heap.size, S, none⟩ (.bool true)).alloc (.cells #[.int .i64 (S : Int), .slice da dn dc] 56))) := (HBe.out.setCell (p := ⟨w.heap.size, S, none⟩) (Nat.le_refl _) _).alloc (by have := HBe.out.size; simpa [World.setCell] using this) _
          clear HP hE hE2 HBe Hb2 Hh hk hin
          go_wp2_with (go_at_call 37; refine (gknown_c (S : Int) _).mono ?_; rw [decide_eq_true (show 0 ≤ (S : Int) ∧ (S : Int) < 16 by omega)]; rintro _ w2 ⟨rfl, hw⟩; replace hw := hw.symm; subst hw)
          go_roundw
          case rel => exact ⟨j + 1, _, _, by omega, by go_num, Hh2, Hb3, HE2⟩
          case measure => simp [intOf]; omega
      · have R := HP.out false _ (by rw [hE, chg_bad (c := Cg.cs ⟨s, da, dn, dc, db⟩) (fun h => hk ⟨h.1, h.2.1⟩)]; rfl) Hb2.out
        have dk : decide (0 ≤ s ∧ s < 16) = false := decide_eq_false hk
        clear HP hE HBe Hb2 Hh
        go_wp2_with (go_at_call 37; refine (gknown_c s _).mono ?_; rw [dk]; rintro _ w2 ⟨rfl, hw⟩; replace hw := hw.symm; subst hw)
        exact R
    · obtain rfl : j = n := by omega
      have hge : ¬ (j : Int) < (j : Int) := by omega
      have R := HP.out true wr (by rw [HE.out, List.drop_of_length_le (by rw [List.length_map, Hn.out]; exact Nat.le_refl _)]; rfl) HBe.out
      clear HP HE HBe Hh
      go_wp2
      exact R
end
section
open Go.RowKit

/-- Sixteen numbers in an array. -/
def lvals (xs : List Nat) : List Value := xs.map fun (x : Nat) => Value.int .i64 (x : Int)
def LRow (w : World) (b : Nat) (xs : List Nat) : Prop := w.heap[b]? = some (.cells (lvals xs).toArray 76 (0, 0))
theorem LRow.lt {w : World} {b : Nat} {xs : List Nat} (H : LRow w b xs) : b < w.heap.size := (Array.getElem?_eq_some_iff.1 H).1
theorem LRow.on {w w' : World} {b : Nat} {xs : List Nat} (H : LRow w b xs) (hb : Below w.heap.size w w') : LRow w' b xs := (hb.block b H.lt).trans H
theorem LRow.at {w : World} {b : Nat} {xs : List Nat} (H : LRow w b xs) {i : Nat} (hi : i < xs.length) : w.cell? ⟨b, i, none⟩ = some (.int .i64 (xs[i] : Int)) := by
  rw [cell_of_row w b i _ 76 (0, 0) H]
  simp [lvals, hi]
theorem LRow.free {w : World} {b : Nat} {xs : List Nat} (H : LRow w b xs) (i : Nat) : w.frozen? ⟨b, i, none⟩ = false := frozen_of_row w _ _ _ 76 H
theorem LRow.set {w : World} {b : Nat} {xs : List Nat} (H : LRow w b xs) (i x : Nat) : LRow (w.setCell ⟨b, i, none⟩ (.int .i64 (x : Int))) b (xs.set i x) := by
  unfold LRow
  rw [heap_setCell_same w b i _ 76 _ H]
  simp [lvals]
theorem size76 : (Try.prog.info? 76).map (·.size) = some 16 := by kernel_rfl
theorem ix76 {xs : List Nat} (k : Nat) (hk : k < xs.length) (hn : xs.length = 16) (w : World) : (Instr.index 76 (.agg (lvals xs).toArray) (.int .i64 (k : Int))).run Try.prog w = .ok (.int .i64 (xs[k] : Int)) w := by
  have hsz : (sizeOf 3).run Try.prog w = .ok 1 w := by kernel_rfl
  have hk' : k < 16 := by omega
  have hg : (lvals xs)[k]? = some (.int .i64 (xs[k] : Int)) := by simp [lvals, hk]
  generalize lvals xs = Z at *
  simp [Instr.index, run_underlying Try.underlying76, asIntOf, part, hsz, Sem.run_bind, hk', hg]
theorem chgAll_in : ∀ (l : List Cs) (d : List (List Int)) (had : List Nat) (d' : List (List Int)), chgAll d had l = some d' → ∀ c ∈ l, 0 ≤ c.s ∧ c.s < 16
  | [], _, _, _, _, c, hc => by simp at hc
  | a :: r, d, had, d', h, c, hc => by
    unfold chgAll at h
    split at h
    · rename_i h1
      rcases List.mem_cons.1 hc with rfl | hc
      · exact ⟨h1.1, h1.2.1⟩
      · exact chgAll_in r _ _ _ h c hc
    · cases h
def slens (sl : List Sm) : List Nat := sl.map fun (s : Sm) => s.b.length
theorem slens_len (sl : List Sm) : (slens sl).length = sl.length := by simp [slens]
theorem pad_set {α : Type} {L : List α} {z v : α} {j : Nat} (hn : L.length = 16) (e : L[j]? = some v) : (L.take j ++ List.replicate (16 - j) z).set j v = L.take (j + 1) ++ List.replicate (16 - (j + 1)) z := by
  have hlt : j < L.length := (List.getElem?_eq_some_iff.1 e).1
  apply List.ext_getElem?
  intro i
  have hlen : (L.take j ++ List.replicate (16 - j) z).length = 16 := by rw [List.length_append, List.length_take, List.length_replicate]; omega
  rw [List.getElem?_set, hlen]
  by_cases h1 : j = i
  · subst h1
    rw [if_pos rfl, if_pos (by omega), List.getElem?_append_left (by rw [List.length_take]; omega), List.getElem?_take, if_pos (by omega), e]
  · rw [if_neg h1]
    by_cases h2 : i < j
    · rw [List.getElem?_append_left (by rw [List.length_take]; omega), List.getElem?_append_left (by rw [List.length_take]; omega), List.getElem?_take, List.getElem?_take, if_pos h2, if_pos (by omega)]
    · rw [List.getElem?_append_right (by rw [List.length_take]; omega), List.getElem?_append_right (by rw [List.length_take]; omega), List.getElem?_replicate, List.getElem?_replicate]
      simp only [List.length_take]
      by_cases h3 : i < 16
      · rw [if_pos (by omega), if_pos (by omega)]
      · rw [if_neg (by omega), if_neg (by omega)]
set_option maxHeartbeats 1000000 in
theorem fits_c (g : Nat) (x z : Int) (sl : List Sm) (d' : List (List Int)) (a : Option Addr) (n c : Nat) (l : List Cg) (w : World) (H : RB w g x z sl) (hsm : ∀ s ∈ sl, s.b.length ≤ 2000) (hC : CgsAt w a l) (hn : l.length = n) (hM : n ≤ maxLen) (hd : chgAll (sl.map Sm.b) [] (l.map Cg.cs) = some d') :
    Calls Try.prog 33 #[.pointer (some ⟨g, 0, none⟩), .slice a n c] w fun e w' => e = .returned (.bool (decide (2 + needAll d' ≤ 40))) ∧ Below w.heap.size w w' := by
  obtain ⟨Post, hPost⟩ : ∃ Post : Ending → World → Prop, Post = fun e w' => e = .returned (.bool (decide (2 + needAll d' ≤ 40))) ∧ Below w.heap.size w w' := ⟨_, rfl⟩
  rw [← hPost]
  have HP : Hid (∀ b w', decide (2 + needAll d' ≤ 40) = b → Below w.heap.size w w' → Post (.returned (.bool b)) w') := fun b w' h1 h2 => by rw [hPost]; exact ⟨by rw [h1], h2⟩
  clear hPost
  have HB : Hid (RB w g x z sl) := H
  have Hsm : Hid (∀ s ∈ sl, s.b.length ≤ 2000) := hsm
  have HC : Hid (CgsAt w a l) := hC
  have Hn : Hid (l.length = n) := hn
  have Hd : Hid (chgAll (sl.map Sm.b) [] (l.map Cg.cs) = some d') := hd
  have hM' : n ≤ 9223372036854775807 := by unfold maxLen at hM; omega
  obtain ⟨Z, hZ⟩ : ∃ Z, Z = smvs sl := ⟨_, rfl⟩
  have HZ : Hid (Z = smvs sl) := hZ
  clear H hsm hC hn hM hd hZ
  have Hb1 : Hid (Below w.heap.size w (w.alloc (.cells (lvals (List.replicate 16 0)).toArray 76))) := (Below.refl _ _).alloc (Nat.le_refl _) _
  have Hh1 : Hid (LRow (w.alloc (.cells (lvals (List.replicate 16 0)).toArray 76)) w.heap.size (List.replicate 16 0)) := heap_alloc_new w _
  have HB1 : Hid (RB (w.alloc (.cells (lvals (List.replicate 16 0)).toArray 76)) g x z sl) := HB.out.on Hb1.out
  have e16 : (lvals (List.replicate 16 0)).toArray = #[.int .i64 0, .int .i64 0, .int .i64 0, .int .i64 0, .int .i64 0, .int .i64 0, .int .i64 0, .int .i64 0, .int .i64 0, .int .i64 0, .int .i64 0, .int .i64 0, .int .i64 0, .int .i64 0, .int .i64 0, .int .i64 0] := by rfl
  rw [e16] at Hb1 Hh1 HB1
  go_enter Try.func33, Try.ntmps33
  go_wp2_with (refine wpList_load_mid rfl 71 (.tmp 15) rfl g 2 rfl Z _ (by rw [HZ.out]; exact HB1.out.range) Try.underlying71 rfl (by rw [HZ.out, smvs_len, HB1.out.n]; exact size71) ?_)
  generalize w.alloc (.cells #[.int .i64 0, .int .i64 0, .int .i64 0, .int .i64 0, .int .i64 0, .int .i64 0, .int .i64 0, .int .i64 0, .int .i64 0, .int .i64 0, .int .i64 0, .int .i64 0, .int .i64 0, .int .i64 0, .int .i64 0, .int .i64 0] 76) = w1 at *
  clear e16 HB
  go_loopw [17] (fun v wr => ∃ (j : Nat), j ≤ 16 ∧ v = .int .i64 (j : Int) ∧ Hid (LRow wr w.heap.size ((slens sl).take j ++ List.replicate (16 - j) 0)) ∧ Hid (Below w.heap.size w wr)) (fun v _ => 16 - (intOf v).toNat)
  case atStart => exact ⟨0, Nat.zero_le _, by go_num, (show LRow _ _ _ by simpa using Hh1.out), Hb1.out⟩
  case round =>
    clear Hh1 Hb1
    obtain ⟨j, hj, rfl, HL, HBe⟩ := hrel
    have hn16 := HB1.out.n
    by_cases hlt : j < 16
    · have hlt' : (j : Int) < 16 := by omega
      have hjl : j < sl.length := by omega
      have hix := ix71 j hjl hn16
      rw [← HZ.out] at hix
      have hlen : ((slens sl).take j ++ List.replicate (16 - j) 0).length = 16 := by rw [List.length_append, List.length_take, slens_len, List.length_replicate]; omega
      have q0 := HL.out.at (i := j) (by omega)
      have f0 := HL.out.free j
      have hbl := HL.out.lt
      have HN : Hid (((slens sl).take j ++ List.replicate (16 - j) 0).set j sl[j].b.length = (slens sl).take (j + 1) ++ List.replicate (16 - (j + 1)) 0) := by
        have e : (slens sl)[j]? = some sl[j].b.length := by unfold slens; rw [List.getElem?_map, List.getElem?_eq_getElem hjl]; rfl
        exact pad_set (by rw [slens_len]; exact hn16) e
      have HL2 := HL.out.set j sl[j].b.length
      rw [HN.out] at HL2
      generalize sl[j].f = F at *
      generalize sl[j].m = M at *
      generalize sl[j].a = A at *
      generalize sl[j].b.length = N at *
      generalize sl[j].c = C at *
      generalize ((slens sl).take j ++ List.replicate (16 - j) 0)[j] = o0 at *
      have HL3 : Hid (LRow ((wr.setCell ⟨w.heap.size, j, none⟩ (.int .i64 (N : Int))).alloc (.cells #[.int .i64 (F : Int), .int .i64 (M : Int), .slice A N C] 70)) w.heap.size ((slens sl).take (j + 1) ++ List.replicate (16 - (j + 1)) 0)) := HL2.on ((Below.refl _ _).alloc (Nat.le_refl _) _)
      have HB3 : Hid (Below w.heap.size w ((wr.setCell ⟨w.heap.size, j, none⟩ (.int .i64 (N : Int))).alloc (.cells #[.int .i64 (F : Int), .int .i64 (M : Int), .slice A N C] 70))) := (HBe.out.setCell (p := ⟨w.heap.size, j, none⟩) (Nat.le_refl _) _).alloc (by have := HBe.out.size; simpa [World.setCell] using this) _
      have hwl : w.heap.size ≠ wr.heap.size := by omega
      clear hlen HN HL HL2 HBe HP
      go_wp2
      go_roundw
      case rel => exact ⟨j + 1, by omega, by go_num, HL3, HB3⟩
      case measure => simp [intOf]; omega
    · obtain rfl : j = 16 := by omega
      have hge : ¬ ((16 : Nat) : Int) < 16 := by omega
      have HL1 : Hid (LRow wr w.heap.size ((sl.map Sm.b).map List.length)) := by
        have := HL.out
        rw [Nat.sub_self, List.replicate_zero, List.append_nil, List.take_of_length_le (by rw [slens_len]; omega)] at this
        show LRow _ _ _
        rw [List.map_map]
        exact this
      have Hbs : Hid (∀ b ∈ sl.map Sm.b, b.length ≤ 140737488351232) := fun b hb => by
        obtain ⟨s, hs, rfl⟩ := List.mem_map.1 hb
        have := Hsm.out s hs
        omega
      have Hdl : Hid ((sl.map Sm.b).length = 16) := by show _ = _; rw [List.length_map]; exact hn16
      obtain ⟨d0, hd0⟩ : ∃ d0, d0 = sl.map Sm.b := ⟨_, rfl⟩
      rw [← hd0] at HL1 Hbs Hd Hdl
      clear HL hd0 HB1 Hsm HZ
      go_wp2_with fail
      obtain ⟨wq, hwq⟩ : ∃ wq, wq = wr := ⟨_, rfl⟩
      subst hwq
      go_loopw [29] (fun v wr => ∃ (j : Nat) (dj : List (List Int)) (hd : List Nat), j ≤ n ∧ v = .int .i64 (j : Int) ∧ Hid (LRow wr w.heap.size (dj.map List.length)) ∧ Hid (Below w.heap.size w wr) ∧ Hid (chgAll dj hd ((l.map Cg.cs).drop j) = some d') ∧ Hid (dj.length = 16) ∧ Hid (∀ b ∈ dj, b.length ≤ 140737488351232)) (fun v _ => n - (intOf v).toNat)
      case atStart => exact ⟨0, d0, [], Nat.zero_le _, by go_num, HL1, HBe, Hd, Hdl, Hbs⟩
      case round =>
        clear HL1 HBe Hd Hdl Hbs
        obtain ⟨j, dj, hd, hj, rfl, HL, HBe, HE, Hdl, Hbs⟩ := hrel
        by_cases hlt : j < n
        · have hlt' : (j : Int) < (n : Int) := by omega
          have hjl : j < l.length := by rw [Hn.out]; exact hlt
          obtain ⟨cb, co, rfl, hc⟩ := (HC.out.on HBe.out) j hjl
          have hdr : (l.map Cg.cs).drop j = l[j].cs :: (l.map Cg.cs).drop (j + 1) := by
            rw [List.drop_eq_getElem_cons (by rw [List.length_map]; exact hjl), List.getElem_map]
          have hE := HE.out
          rw [hdr] at hE
          obtain ⟨⟨s, da, dn, dc, db⟩, hci⟩ : ∃ c, l[j] = c := ⟨_, rfl⟩
          rw [hci] at hc hE
          have c0 := hc.c0
          have c1 := hc.c1
          have hdn : db.length = dn := hc.by_.n
          have hsz : dn ≤ 140737488351232 := hc.sz
          simp only at c0 c1
          have hok : 0 ≤ s ∧ s < 16 ∧ s.toNat ∉ hd := by
            by_cases h : 0 ≤ s ∧ s < 16 ∧ s.toNat ∉ hd
            · exact h
            · rw [chg_bad (c := Cg.cs ⟨s, da, dn, dc, db⟩) h] at hE
              cases hE
          rw [chg_ok (c := Cg.cs ⟨s, da, dn, dc, db⟩) hok] at hE
          obtain ⟨S, rfl⟩ := Int.eq_ofNat_of_zero_le hok.1
          have hS16 : S < 16 := by omega
          have hS' : (S : Int) < 16 := by omega
          have HE2 : Hid (chgAll (dj.set S db) (S :: hd) ((l.map Cg.cs).drop (j + 1)) = some d') := hE
          have q0 := HL.out.at (i := S) (by rw [List.length_map, Hdl.out]; exact hS16)
          have f0 := HL.out.free S
          have hbl := HL.out.lt
          have hwl : w.heap.size ≠ wr.heap.size := by omega
          have HL2 := HL.out.set S dn
          have e1 : (dj.map List.length).set S dn = (dj.set S db).map List.length := by rw [List.map_set, hdn]
          rw [e1] at HL2
          have HL3 : Hid (LRow ((wr.setCell ⟨w.heap.size, S, none⟩ (.int .i64 (dn : Int))).alloc (.cells #[.int .i64 (S : Int), .slice da dn dc] 56)) w.heap.size ((dj.set S db).map List.length)) := HL2.on ((Below.refl _ _).alloc (Nat.le_refl _) _)
          have HB3 : Hid (Below w.heap.size w ((wr.setCell ⟨w.heap.size, S, none⟩ (.int .i64 (dn : Int))).alloc (.cells #[.int .i64 (S : Int), .slice da dn dc] 56))) := (HBe.out.setCell (p := ⟨w.heap.size, S, none⟩) (Nat.le_refl _) _).alloc (by have := HBe.out.size; simpa [World.setCell] using this) _
          have Hdl2 : Hid ((dj.set S db).length = 16) := by show _ = _; rw [List.length_set]; exact Hdl.out
          have Hbs2 : Hid (∀ b ∈ dj.set S db, b.length ≤ 140737488351232) := fun b hb => by
            rcases List.mem_or_eq_of_mem_set hb with h | h
            · exact Hbs.out b h
            · rw [h, hdn]; exact hsz
          generalize (dj.map List.length)[S]'(by rw [List.length_map, Hdl.out]; exact hS16) = o0 at *
          clear HP hE HBe HL HL2 e1 hok hc hdr hci HE Hdl Hbs hdn
          go_wp2
          go_roundw
          case rel => exact ⟨j + 1, _, _, by omega, by go_num, HL3, HB3, HE2, Hdl2, Hbs2⟩
          case measure => simp [intOf]; omega
        · obtain rfl : j = n := by omega
          have hge : ¬ (j : Int) < (j : Int) := by omega
          have hE := HE.out
          rw [List.drop_of_length_le (by rw [List.length_map, Hn.out]; exact Nat.le_refl _)] at hE
          obtain rfl : dj = d' := Option.some.inj hE
          clear HE hE HC Hn
          obtain ⟨Y, hY⟩ : ∃ Y, Y = (lvals (dj.map List.length)).toArray := ⟨_, rfl⟩
          have HY : Hid (Y = (lvals (dj.map List.length)).toArray) := hY
          have HLw : Hid (wr.heap[w.heap.size]? = some (.cells Y 76 (0, 0))) := by show _ = _; rw [hY]; exact HL.out
          have Hys : Hid (Y.size = 16) := by show _ = _; rw [hY]; simp [lvals]; exact Hdl.out
          clear hY HL
          go_wp2_with (refine wpList_load_row rfl 76 (.tmp 5) rfl w.heap.size rfl 76 Y (0, 0) _ HLw.out Try.underlying76 rfl (by rw [Hys.out]; exact size76) ?_)
          have HPb : Hid (decide (2 + needAll dj ≤ 40) = true → Post (.returned (.bool true)) wr) := fun h => HP.out true wr h HBe.out
          have HPn : Hid (decide (2 + needAll dj ≤ 40) = false → Post (.returned (.bool false)) wr) := fun h => HP.out false wr h HBe.out
          obtain ⟨wp, hwp⟩ : ∃ wp, wp = wr := ⟨_, rfl⟩
          subst hwp
          clear HLw HP HBe
          go_loopw [10, 41] (fun u v wr => ∃ (j q : Nat), j ≤ 16 ∧ v = .int .i64 (j : Int) ∧ u = .int .i64 (q : Int) ∧ q ≤ 2 + j * 4398046511104 ∧ wr = wp ∧ Hid (q = 2 + ((dj.take j).map fun (b : List Int) => needS b.length).sum)) (fun _ v _ => 16 - (intOf v).toNat)
          case atStart => exact ⟨0, 2, Nat.zero_le _, by go_num, by go_num, by omega, rfl, rfl⟩
          case round =>
            obtain ⟨i, q, hi, rfl, rfl, hq, rfl, HQ⟩ := hrel
            by_cases hlt : i < 16
            · have hlt' : (i : Int) < 16 := by omega
              have hil : i < dj.length := by rw [Hdl.out]; exact hlt
              have hix := ix76 (xs := dj.map List.length) i (by rw [List.length_map]; exact hil) (by rw [List.length_map]; exact Hdl.out)
              rw [← HY.out, List.getElem_map] at hix
              have hb := Hbs.out dj[i] (List.getElem_mem _)
              have HQ2 : Hid (q + needS dj[i].length = 2 + ((dj.take (i + 1)).map fun (b : List Int) => needS b.length).sum) := by
                show _ = _
                rw [List.take_succ_eq_append_getElem hil, List.map_append, List.sum_append, HQ.out]
                simp [Nat.add_assoc]
              generalize dj[i].length = N at *
              have hneed : needS N ≤ 4398046511104 := by unfold needS; omega
              clear HPb HPn HQ
              go_wp2_with fail
              refine (need_n N (by omega) wr).mono ?_
              rintro _ w3 ⟨rfl, hw⟩
              replace hw := hw.symm
              subst hw
              generalize needS N = R at *
              have hq3 : q + R ≤ 2 + (i + 1) * 4398046511104 := by omega
              have hqb : (q : Int) + (R : Int) ≤ 1000000000000000 := by omega
              go_wp2
              go_roundw
              case rel => exact ⟨i + 1, q + R, by omega, by go_num, by go_num, hq3, trivial, HQ2⟩
              case measure => simp [intOf]; omega
            · obtain rfl : i = 16 := by omega
              have hge2 : ¬ ((16 : Nat) : Int) < 16 := by omega
              have hQ := HQ.out
              rw [List.take_of_length_le (by rw [Hdl.out]; exact Nat.le_refl _)] at hQ
              change q = 2 + needAll dj at hQ
              by_cases hle : q ≤ 40
              · have hle' : (q : Int) ≤ 40 := by omega
                have R := HPb.out (decide_eq_true (by omega))
                clear HPb HPn HQ hQ
                go_wp2
                exact R
              · have hle' : ¬ (q : Int) ≤ 40 := by omega
                have R := HPn.out (decide_eq_false (by omega))
                clear HPb HPn HQ hQ
                go_wp2
                exact R
end
section
open Go.RowKit

/-- append of bytes onto none, few or many, as a step of a region that draws its order. -/
theorem step_bytes_any {w : World} {ops : Array Oper} {o : Oper} {a : Act} {K : Act → World → Prop} {Q : Exit → Act → World → Prop} {E : Prop} (hgd : o.guard = none) (x : Operand)
    (ho : o.op = .call { callee := .builtin .append, args := #[.const (.slice none 0 0), x], argTypes := #[25, 25] }) (sp : Option Addr) (m sc : Nat) (xs : List Int) (hx : a.eval x = .slice sp m sc) (hX : Bytes w sp m xs) (hnil : sp = none → sc = 0) (hle : m ≤ reachBytes)
    (h : ∀ p cp w', Own w' w.heap.size p cp xs → Below w.heap.size w w' → K (a.put o.dst (.slice p m cp)) w') :
    if Region.wanted o (yielded ops a.tmps) = true then Oper.wp Try.prog o a w K Q else E := by
  have hw : Region.wanted o (yielded ops a.tmps) = true := by simp [Region.wanted, hgd]
  rw [if_pos hw]
  have hm := hX.n
  obtain ⟨i, hi, hz0, hz1, hz2⟩ := info_parts Try.info5
  unfold reachBytes at hle
  cases sp with
  | none =>
    obtain rfl := hnil rfl
    have hxs : xs = [] := by
      rcases hX.cells with e | ⟨b, off, e, _⟩
      · exact e
      · cases e
    subst hxs
    simp at hm
    subst hm
    have hrun := run_append_owned_none (P := Try.prog) (w := w) 0 25 o.type 5 i 1 Try.underlying25 hi (.slice none 0 0) 0 [] (World.ownsRow_nil _ _ _ _)
    have hev : a.eval (.const (.slice none 0 0)) = .slice none 0 0 := rfl
    unfold Oper.wp
    simp [execOp, ho, resolve, invoke, builtin, hx, hev, hrun, Result.andThen]
    exact h none 0 w (Own.nil _ _) (Below.refl _ _)
  | some ad =>
    refine wp_append_own w (.const (.slice none 0 0)) x 25 ho w.heap.size 5 i (.int .u8 0) 1 1 Try.underlying25 hi hz0 hz1 hz2 rfl (by decide) (.slice none 0 0) 0 [] rfl (World.ownsRow_nil _ _ _ _) ad m sc (xs.map (Value.int .u8)) hx (by simpa using hm) ?_ (ints_oneCell _ _) (by unfold maxLen; omega) (by omega) (Nat.le_refl _) ?_
    · intro j u hj
      obtain ⟨hj', hv⟩ := List.getElem?_eq_some_iff.1 hj
      rw [List.length_map] at hj'
      rcases hX.cells with e | ⟨b, off, e, hc⟩
      · subst e; simp at hj'
      · obtain rfl := Option.some.inj e
        rw [Addr.add_lit, hc j hj', ← hv]
        simp
    · intro v' w' h1 h2 _
      have hb' : Below w.heap.size w w' := (Below.refl _ _).grown h2 (Nat.le_refl _) (fun k hk => by cases hk)
      have e : ∃ a' c', v' = .slice a' (0 + m) c' := by
        rcases h1.2 with ⟨hv, hn⟩ | ⟨g, cap, _, hv, _⟩
        · exact ⟨none, 0, by rw [hv, hn]⟩
        · exact ⟨_, _, hv⟩
      obtain ⟨a', c', rfl⟩ := e
      have := h a' c' w' (by unfold Own; rw [hm]; simpa using h1) hb'
      simpa using this

theorem only3 (w : World) (g o : Nat) (a b c : Value) (k : Nat) (hk : k ≠ g) : (w.setCells g o [a, b, c]).heap[k]? = w.heap[k]? := by
  show (((w.setCell ⟨g, o, none⟩ a).setCell ⟨g, o + 1, none⟩ b).setCell ⟨g, o + 1 + 1, none⟩ c).heap[k]? = _
  rw [Below.heap_setCell _ ⟨g, o + 1 + 1, none⟩ _ k hk, Below.heap_setCell _ ⟨g, o + 1, none⟩ _ k hk, Below.heap_setCell _ ⟨g, o, none⟩ _ k hk]
theorem only_set3 (w : World) (g o : Nat) (a b c : Value) : Only g w (w.setCells g o [a, b, c]) := ((Only.refl g w).set o a).set (o + 1) b |>.set (o + 1 + 1) c
theorem RB.set3 {w : World} {g : Nat} {x z : Int} {l : List Sm} (H : RB w g x z l) (k : Nat) (p : Option Addr) (cp : Nat) (b : List Int) (n : Nat) (hn : b.length = n) (hk : k < l.length) : RB (w.setCells g (2 + k * 3) [.int .i64 0, .int .i64 0, .slice p n cp]) g x z (l.set k ⟨0, 0, p, cp, b⟩) := by
  show RB (((w.setCell ⟨g, 2 + k * 3, none⟩ (.int .i64 0)).setCell ⟨g, 2 + k * 3 + 1, none⟩ (.int .i64 0)).setCell ⟨g, 2 + k * 3 + 1 + 1, none⟩ (.slice p n cp)) g x z _
  subst hn
  have h1 := H.setAt k 0 0 hk
  have h2 := h1.setDat k p cp b (by rw [List.length_set]; exact hk)
  rw [List.set_set, List.getElem_set_self] at h2
  exact h2
/-- A slot that was changed: it has no sectors yet, and its bytes are new. -/
def New (B : Nat) (s : Sm) : Prop := s.f = 0 ∧ s.m = 0 ∧ ∀ ad, s.a = some ad → B ≤ ad.block
/-- Behind j changes. -/
structure Wi (w : World) (g : Nat) (x z : Int) (sl : List Sm) (d' : List (List Int)) (L : List Cs) (j : Nat) (wr : World) : Prop where
  it : ∃ slj hd, RB wr g x z slj ∧ (∀ s ∈ slj, Dt wr s) ∧ chgAll (slj.map Sm.b) hd (L.drop j) = some d' ∧ ∀ k (h : k < slj.length) (h' : k < sl.length), slj[k] = sl[k] ∨ New w.heap.size slj[k]
  bel : Below w.heap.size w wr
set_option maxHeartbeats 1000000 in
theorem with_c (g : Nat) (x z : Int) (sl : List Sm) (d' : List (List Int)) (a : Option Addr) (n c : Nat) (l : List Cg) (w : World) (H : RB w g x z sl) (hD : ∀ s ∈ sl, Dt w s) (hC : CgsAt w a l) (hn : l.length = n) (hM : n ≤ maxLen) (hd : chgAll (sl.map Sm.b) [] (l.map Cg.cs) = some d') :
    Calls Try.prog 34 #[.pointer (some ⟨g, 0, none⟩), .slice a n c] w fun e w' => Below w.heap.size w w' ∧ e = .returned (.pointer (some ⟨w.heap.size, 0, none⟩)) ∧ ∃ sl', RB w' w.heap.size x z sl' ∧ (∀ s ∈ sl', Dt w' s) ∧ sl'.map Sm.b = d' ∧ ∀ k (h : k < sl'.length) (h' : k < sl.length), sl'[k] = sl[k] ∨ New w.heap.size sl'[k] := by
  obtain ⟨Post, hPost⟩ : ∃ Post : Ending → World → Prop, Post = fun e w' => Below w.heap.size w w' ∧ e = .returned (.pointer (some ⟨w.heap.size, 0, none⟩)) ∧ ∃ sl', RB w' w.heap.size x z sl' ∧ (∀ s ∈ sl', Dt w' s) ∧ sl'.map Sm.b = d' ∧ ∀ k (h : k < sl'.length) (h' : k < sl.length), sl'[k] = sl[k] ∨ New w.heap.size sl'[k] := ⟨_, rfl⟩
  rw [← hPost]
  have HP : Hid (∀ w', Wi w w.heap.size x z sl d' (l.map Cg.cs) n w' → Post (.returned (.pointer (some ⟨w.heap.size, 0, none⟩))) w') := fun w' h => by
    obtain ⟨slj, hd, h1, h2, h3, h4⟩ := h.it
    rw [List.drop_of_length_le (by rw [List.length_map, hn]; exact Nat.le_refl _)] at h3
    rw [hPost]
    exact ⟨h.bel, rfl, slj, h1, h2, Option.some.inj h3, h4⟩
  clear hPost
  have HB : Hid (RB w g x z sl) := H
  have HD : Hid (∀ s ∈ sl, Dt w s) := hD
  have HC : Hid (CgsAt w a l) := hC
  have Hn : Hid (l.length = n) := hn
  have Hd : Hid (chgAll (sl.map Sm.b) [] (l.map Cg.cs) = some d') := hd
  have hM' : n ≤ 9223372036854775807 := by unfold maxLen at hM; omega
  obtain ⟨Z, hZ⟩ : ∃ Z, Z = (rgv x z sl).toArray := ⟨_, rfl⟩
  have HZ : Hid (Z = (rgv x z sl).toArray) := hZ
  have Hz1 : Hid (Z.size = 50) := by show _ = _; rw [hZ]; exact rgv_size H.n x z
  have Hz2 : Hid (Z.all (·.oneCell') = true) := by show _ = _; rw [hZ]; exact rgv_one x z sl
  have Hz3 : Hid (w.heap[g]? = some (.cells Z 73 (0, 0))) := by show _ = _; rw [hZ]; exact H.head
  clear H hD hC hn hM hd hZ
  go_enter Try.func34, Try.ntmps34
  go_wp2_with (first
    | (refine wpList_load_row rfl 73 (.tmp 9) rfl g rfl 73 Z (0, 0) _ Hz3.out Try.underlying73 rfl (by rw [Hz1.out]; exact size73) ?_)
    | (refine wpList_store_row rfl 73 (.tmp 5) (.tmp 10) rfl w.heap.size Z rfl rfl 73 _ (heap_alloc_new w _) (by rw [Hz1.out]; exact size73) (by rw [Hz1.out]; rfl) Hz2.out ?_))
  generalize hO0 : (w.alloc _).setRow w.heap.size Z = w1
  have hal : w1.heap[w.heap.size]? = some (.cells Z 73 (0, 0)) := by rw [← hO0]; exact setRow_heap _ w.heap.size _ Z 73 (0, 0) (heap_alloc_new w _)
  have hbe : Below w.heap.size w w1 := by rw [← hO0]; exact below_setRow ((Below.refl _ _).alloc (Nat.le_refl _) _) (Nat.le_refl _)
  have HW0 : Hid (Wi w w.heap.size x z sl d' (l.map Cg.cs) 0 w1) := ⟨⟨sl, [], ⟨by rw [hal, HZ.out], HB.out.n⟩, fun s hs => (HD.out s hs).on hbe, Hd.out, fun k h h' => .inl rfl⟩, hbe⟩
  clear hO0 hal hbe HB HD Hd HZ Hz1 Hz2 Hz3
  go_loopw [13] (fun v wr => ∃ (j : Nat), j ≤ n ∧ v = .int .i64 (j : Int) ∧ Hid (Wi w w.heap.size x z sl d' (l.map Cg.cs) j wr)) (fun v _ => n - (intOf v).toNat)
  case atStart => exact ⟨0, Nat.zero_le _, by go_num, HW0⟩
  case round =>
    clear HW0
    obtain ⟨j, hj, rfl, HW⟩ := hrel
    by_cases hlt : j < n
    · have hlt' : (j : Int) < (n : Int) := by omega
      have hjl : j < l.length := by rw [Hn.out]; exact hlt
      obtain ⟨slj, hd, hB0, hD0, hE, hrl⟩ := HW.out.it
      have hbel := HW.out.bel
      obtain ⟨cb, co, rfl, hc⟩ := (HC.out.on hbel) j hjl
      have hdr : (l.map Cg.cs).drop j = l[j].cs :: (l.map Cg.cs).drop (j + 1) := by
        rw [List.drop_eq_getElem_cons (by rw [List.length_map]; exact hjl), List.getElem_map]
      rw [hdr] at hE
      obtain ⟨⟨s, da, dn, dc, db⟩, hci⟩ : ∃ c, l[j] = c := ⟨_, rfl⟩
      rw [hci] at hc hE
      have c0 := hc.c0
      have c1 := hc.c1
      have hdn : db.length = dn := hc.by_.n
      have hsz : dn ≤ 140737488351232 := hc.sz
      simp only at c0 c1
      have hok : 0 ≤ s ∧ s < 16 ∧ s.toNat ∉ hd := by
        by_cases h : 0 ≤ s ∧ s < 16 ∧ s.toNat ∉ hd
        · exact h
        · rw [chg_bad (c := Cg.cs ⟨s, da, dn, dc, db⟩) h] at hE
          cases hE
      rw [chg_ok (c := Cg.cs ⟨s, da, dn, dc, db⟩) hok] at hE
      obtain ⟨S, rfl⟩ := Int.eq_ofNat_of_zero_le hok.1
      have hS16 : S < 16 := by omega
      have hS' : (S : Int) < 16 := by omega
      have hszr : dn ≤ reachBytes := by unfold reachBytes; omega
      have hb2 : Below wr.heap.size wr (wr.alloc (.cells #[.int .i64 (S : Int), .slice da dn dc] 56)) := (Below.refl _ _).alloc (Nat.le_refl _) _
      have HBw : Hid (RB (wr.alloc (.cells #[.int .i64 (S : Int), .slice da dn dc] 56)) w.heap.size x z slj) := hB0.on hb2
      have HDw : Hid (∀ s ∈ slj, Dt (wr.alloc (.cells #[.int .i64 (S : Int), .slice da dn dc] 56)) s) := fun s hs => (hD0 s hs).on hb2
      have HDd : Hid (Bytes (wr.alloc (.cells #[.int .i64 (S : Int), .slice da dn dc] 56)) da dn db) := hc.by_.on hb2
      have Hnil : Hid (da = none → dc = 0) := hc.nil
      have HBe : Hid (Below w.heap.size w (wr.alloc (.cells #[.int .i64 (S : Int), .slice da dn dc] 56))) := hbel.alloc hbel.size _
      have hnb := heap_alloc_new wr (.cells #[.int .i64 (S : Int), .slice da dn dc] 56)
      have hb0 : (wr.alloc (.cells #[.int .i64 (S : Int), .slice da dn dc] 56)).cell? ⟨wr.heap.size, 0, none⟩ = some (.int .i64 (S : Int)) := by rw [cell_of_row _ _ _ _ 56 (0, 0) hnb]; rfl
      have hb1 : (wr.alloc (.cells #[.int .i64 (S : Int), .slice da dn dc] 56)).cell? ⟨wr.heap.size, 1, none⟩ = some (.slice da dn dc) := by rw [cell_of_row _ _ _ _ 56 (0, 0) hnb]; rfl
      have hg2 := hB0.lt
      have hbg : w.heap.size ≠ wr.heap.size := by omega
      have Hfin : Hid (∀ vb p cp, RB vb w.heap.size x z slj → (∀ s ∈ slj, Dt vb s) → Below w.heap.size w vb → Own vb (wr.alloc (.cells #[.int .i64 (S : Int), .slice da dn dc] 56)).heap.size p cp db → Wi w w.heap.size x z sl d' (l.map Cg.cs) (j + 1) (vb.setCells w.heap.size (2 + S * 3) [.int .i64 0, .int .i64 0, .slice p dn cp])) := fun vb p cp h1 h2 h3 h4 => by
        have hsl : S < slj.length := by rw [h1.n]; exact hS16
        have hO : Only w.heap.size vb (vb.setCells w.heap.size (2 + S * 3) [.int .i64 0, .int .i64 0, .slice p dn cp]) := only_set3 _ _ _ _ _ _
        have hDn : Dt (vb.setCells w.heap.size (2 + S * 3) [.int .i64 0, .int .i64 0, .slice p dn cp]) ⟨0, 0, p, cp, db⟩ := by
          have hby := h4.bytes hc.by_.fit dn hdn
          refine ⟨?_, fun e => ?_, ?_⟩
          · have := bytes_away h1 hby _ hO
            simp only
            rw [hdn]
            exact this
          · rcases h4.parts with ⟨_, h, _⟩ | ⟨g, e2, _⟩
            · exact h
            · simp only at e; rw [e] at e2; cases e2
          · rcases h4.parts with ⟨_, h, e⟩ | ⟨g, e2, _, _, _, _, h⟩
            · simp only; rw [e]; simp
            · exact h
        refine ⟨⟨slj.set S ⟨0, 0, p, cp, db⟩, S :: hd, h1.set3 S p cp db dn hdn hsl, fun s hs => ?_, ?_, fun k h h' => ?_⟩, ?_⟩
        · rcases List.mem_or_eq_of_mem_set hs with h | h
          · obtain ⟨q1, q2, q3⟩ := h2 s h
            exact ⟨bytes_away h1 q1 _ hO, q2, q3⟩
          · rw [h]; exact hDn
        · rw [List.map_set]; exact hE
        · rw [List.length_set] at h
          by_cases e : S = k
          · subst e
            rw [List.getElem_set_self]
            refine .inr ⟨rfl, rfl, fun ad hA => ?_⟩
            simp only at hA
            rcases h4.parts with ⟨e2, _⟩ | ⟨g, e2, hg, _⟩
            · rw [e2] at hA; cases hA
            · rw [e2] at hA
              cases hA
              have := HBe.out.size
              simp only
              omega
          · rw [List.getElem_set_ne e]
            exact hrl k h h'
        · exact h3.trans (hO.below (Nat.le_refl _))
      clear HP HW hE hok hdr hci hnb hb2 hB0 hD0 hrl hc HC hbel
      go_wp2_with fail
      obtain ⟨bx, hbx⟩ : ∃ bx, bx = wr.heap.size := ⟨_, rfl⟩
      obtain ⟨g2, hg2e⟩ : ∃ g2, g2 = w.heap.size := ⟨_, rfl⟩
      rw [← hbx] at hb0 hb1 hbg ⊢
      rw [← hg2e] at HBw hbg Hfin ⊢
      have Hg2 : Hid (g2 = w.heap.size) := hg2e
      clear hbx hg2e hg2
      generalize wr.alloc (.cells #[.int .i64 (S : Int), .slice da dn dc] 56) = wb at *
      refine region_L (fun w' : World => w'.cell? ⟨bx, 0, none⟩ = some (.int .i64 (S : Int)) ∧ w'.cell? ⟨bx, 1, none⟩ = some (.slice da dn dc)) 9 (by kernel_rfl) ?_
      have HBa : Hid (RB wb.drew g2 x z slj) := HBw.out.keep rfl
      have HDs : Hid (∀ s ∈ slj, Dt wb.drew s) := fun s hs => ⟨⟨(HDw.out s hs).by_.n, (HDw.out s hs).by_.cells, (HDw.out s hs).by_.fit⟩, (HDw.out s hs).nil, (HDw.out s hs).cap⟩
      have HDa : Hid (Bytes wb.drew da dn db) := ⟨HDd.out.n, HDd.out.cells, HDd.out.fit⟩
      have Hba : Hid (Below w.heap.size w wb.drew) := ⟨HBe.out.os, HBe.out.tape, HBe.out.output, HBe.out.size, HBe.out.block⟩
      have hca : wb.drew.cell? ⟨bx, 0, none⟩ = some (.int .i64 (S : Int)) ∧ wb.drew.cell? ⟨bx, 1, none⟩ = some (.slice da dn dc) := ⟨hb0, hb1⟩
      have Hsz : Hid (wb.heap.size = wb.drew.heap.size) := rfl
      rw [Hsz.out] at Hfin
      clear HBw HDw HDd HBe hb0 hb1 Hsz
      generalize wb.drew = va at *
      have hHeld : (fun w' : World => w'.cell? ⟨bx, 0, none⟩ = some (.int .i64 (S : Int)) ∧ w'.cell? ⟨bx, 1, none⟩ = some (.slice da dn dc)) _ := hca
      have hne : Nonempty (Sub (fun w' : World => w'.cell? ⟨bx, 0, none⟩ = some (.int .i64 (S : Int)) ∧ w'.cell? ⟨bx, 1, none⟩ = some (.slice da dn dc))) := ⟨⟨_, hHeld⟩⟩
      have k0 : ∀ s : Sub (fun w' : World => w'.cell? ⟨bx, 0, none⟩ = some (.int .i64 (S : Int)) ∧ w'.cell? ⟨bx, 1, none⟩ = some (.slice da dn dc)), s.w.cell? ⟨bx, 0, none⟩ = some (.int .i64 (S : Int)) := fun s => s.ok.1
      have k1 : ∀ s : Sub (fun w' : World => w'.cell? ⟨bx, 0, none⟩ = some (.int .i64 (S : Int)) ∧ w'.cell? ⟨bx, 1, none⟩ = some (.slice da dn dc)), s.w.cell? ⟨bx, 1, none⟩ = some (.slice da dn dc) := fun s => s.ok.2
      refine take_N (i := 0) rfl (by kernel_rfl) (by kernel_rfl) (by kernel_rfl) (by rfl) (fun _ _ _ _ h => h) (by exact hHeld) (fun K hK => ?_)
      go_simp
      refine hK _ ?_
      clear hK K
      refine take_N (i := 1) rfl (by kernel_rfl) (by kernel_rfl) (by kernel_rfl) (by rfl) (fun _ _ _ _ h => h) (by exact hHeld) (fun K hK => ?_)
      go_simp
      refine hK _ ?_
      clear hK K
      refine take_N (i := 2) rfl (by kernel_rfl) (by kernel_rfl) (by kernel_rfl) (by rfl) (fun _ _ _ _ h => h) (by exact hHeld) (fun K hK => ?_)
      go_simp
      refine hK _ ?_
      clear hK K
      refine take_N (i := 3) rfl (by kernel_rfl) (by kernel_rfl) (by kernel_rfl) (by rfl) (fun _ _ _ _ h => h) (by exact hHeld) (fun K hK => ?_)
      go_simp
      refine hK _ ?_
      clear hK K
      refine take_N (i := 6) rfl (by kernel_rfl) (by kernel_rfl) (by kernel_rfl) (by rfl) (fun _ _ _ _ h => h) (by exact hHeld) (fun K hK => ?_)
      go_simp
      refine hK _ ?_
      clear hK K
      refine one_L (i := 4) (by kernel_rfl) rfl (fun K hK => ?_)
      refine step_bytes_any rfl (.tmp 20) rfl da dn dc db rfl HDa.out Hnil.out hszr ?_
      intro p cp vb hOw hbv
      have HBb : Hid (RB vb g2 x z slj) := HBa.out.on hbv
      have HDb : Hid (∀ s ∈ slj, Dt vb s) := fun s hs => (HDs.out s hs).on hbv
      have Hbb : Hid (Below w.heap.size w vb) := Hba.out.trans (hbv.mono Hba.out.size)
      have HOw : Hid (Own vb va.heap.size p cp db) := hOw
      clear hOw
      replace hHeld : (fun w' : World => w'.cell? ⟨bx, 0, none⟩ = some (.int .i64 (S : Int)) ∧ w'.cell? ⟨bx, 1, none⟩ = some (.slice da dn dc)) _ := ⟨cell_below hHeld.1 hbv, cell_below hHeld.2 hbv⟩
      refine hK.out _ _ (fun _ => hHeld) ?_
      clear hK K
      refine take_N (i := 5) rfl (by kernel_rfl) (by kernel_rfl) (by kernel_rfl) (by rfl) (fun _ _ _ _ h => h) (by exact hHeld) (fun K hK => ?_)
      go_simp
      refine hK _ ?_
      clear hK K
      refine take_N (i := 7) rfl (by kernel_rfl) (by kernel_rfl) (by kernel_rfl) (by rfl) (fun _ _ _ _ h => h) (by exact hHeld) (fun K hK => ?_)
      go_simp
      refine hK _ ?_
      clear hK K
      refine one_L (i := 8) (by kernel_rfl) rfl (fun K hK => ?_)
      have hslS : S < slj.length := by rw [HBb.out.n]; exact hS16
      refine step_plain rfl (wp_store_mid 70 (.tmp 24) (.tmp 22) rfl g2 (2 + S * 3) #[.int .i64 0, .int .i64 0, .slice p dn cp] rfl rfl ?_ (by kernel_rfl) (by simp [Value.oneCell']) ?_)
      · intro i hi
        have hi3 : i < 3 := hi
        refine ⟨?_, HBb.out.free _⟩
        rw [HBb.out.cell S i hslS hi3]
        match i, hi3 with
        | 0, _ => rfl
        | 1, _ => rfl
        | 2, _ => rfl
      have hfin := Hfin.out vb p cp HBb.out HDb.out (by rw [Hg2.out]; exact Hbb.out) HOw.out
      replace hHeld : (fun w' : World => w'.cell? ⟨bx, 0, none⟩ = some (.int .i64 (S : Int)) ∧ w'.cell? ⟨bx, 1, none⟩ = some (.slice da dn dc)) _ := ⟨(World.cell?_of_block (a := ⟨bx, 0, none⟩) (only3 vb g2 (2 + S * 3) (.int .i64 0) (.int .i64 0) (.slice p dn cp) bx (Ne.symm hbg))).trans hHeld.1, (World.cell?_of_block (a := ⟨bx, 1, none⟩) (only3 vb g2 (2 + S * 3) (.int .i64 0) (.int .i64 0) (.slice p dn cp) bx (Ne.symm hbg))).trans hHeld.2⟩
      refine hK.out _ _ (fun _ => hHeld) ?_
      clear hK K
      refine done_L (by kernel_rfl) ?_ _
      have hgg := Hg2.out
      subst hgg
      have HF : Hid (Wi w w.heap.size x z sl d' (l.map Cg.cs) (j + 1) (vb.setCells w.heap.size (2 + S * 3) [.int .i64 0, .int .i64 0, .slice p dn cp])) := hfin
      clear hfin hHeld Hbb HOw HDb HBb Hfin HDs HBa HDa Hba hca
      have hsc : vb.setCells w.heap.size (2 + S * 3) (#[Value.int .i64 0, .int .i64 0, .slice p dn cp]).toList = vb.setCells w.heap.size (2 + S * 3) [.int .i64 0, .int .i64 0, .slice p dn cp] := rfl
      rw [hsc]
      clear hsc
      generalize vb.setCells w.heap.size (2 + S * 3) [.int .i64 0, .int .i64 0, .slice p dn cp] = vc at *
      go_simp
      go_wp2
      go_roundw
      case rel => exact ⟨j + 1, by omega, by go_num, HF⟩
      case measure => simp [intOf]; omega
    · obtain rfl : j = n := by omega
      have hge : ¬ (j : Int) < (j : Int) := by omega
      have R := HP.out wr HW.out
      clear HP HW
      go_wp2
      exact R
end
end Go.Proofs.Ytdjhlpllffakpaa
