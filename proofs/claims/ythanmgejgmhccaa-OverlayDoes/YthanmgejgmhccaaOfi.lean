/-
  The landed overlay: Final and Many.
-/
import Derived.Test.YthanmgejgmhccaaOs
set_option maxRecDepth 20000
namespace Go.Proofs.Ythanmgejgmhccaa
open C Go.RowKit Go.Shelf

theorem boxes_of {w w2 : World} {p q : Option Addr} (hw : w2 = (w.alloc (.cells #[.pointer q] 39)).alloc (.cells #[.pointer p] 39)) : w2.cell? ⟨w.heap.size + 1, 0, none⟩ = some (.pointer p) ∧ w2.cell? ⟨w.heap.size, 0, none⟩ = some (.pointer q) ∧ Below w.heap.size w w2 := by
  refine ⟨?_, ?_, ?_⟩
  · have := heap_alloc_new (w.alloc (.cells #[.pointer q] 39)) (.cells #[.pointer p] 39)
    rw [hw, cell_of_row _ (w.heap.size + 1) 0 #[.pointer p] 39 (0, 0) (by simpa using this)]
    rfl
  · have h1 := heap_alloc_new w (.cells #[.pointer q] 39)
    have h2 : w2.heap[w.heap.size]? = some (.cells #[.pointer q] 39 (0, 0)) := by
      rw [hw]
      exact (Below.heap_alloc _ _ _ (Array.getElem?_eq_some_iff.1 h1).1).trans h1
    rw [cell_of_row _ _ 0 _ 39 (0, 0) h2]
    rfl
  · rw [hw]; exact ((Below.refl _ _).alloc (Nat.le_refl _) _).alloc (by simp) _
theorem fin_of {E G cs : List Int} (h : Sp E G) (hl : cs.length = 32768) (hk : Kinds cs) (ha : ∀ j, j < 32768 → cs.getD j 0 = if inE (some E) G j = true then edK (some E) j else G.getD j 0) : IsFin E G cs :=
  ⟨hl, hk, fun j hj => by
    rw [ha j hj]
    unfold inE edK finK
    simp only [getC_in hj]
    have b := h.ek.at j
    by_cases e16 : E.getD j 0 = 16
    · rw [e16, if_neg (by simp [isB]), if_pos rfl]
    · rw [if_neg e16, if_pos]
      rw [Bool.and_eq_true, bne_iff_ne]
      exact ⟨decide_eq_true (by omega), (h.ne j hj).resolve_left e16⟩⟩
/-- What Final answers. -/
def FinSay (E G : List Int) (w : World) (r : Ending) (w' : World) : Prop := ∃ x cs, r = .returned (.pointer (some ⟨x, 0, none⟩)) ∧ w.heap.size ≤ x ∧ Blk w' x 67 cs ∧ IsFin E G cs ∧ Below w.heap.size w w'
set_option maxHeartbeats 2000000 in
theorem final_o {B : Nat} {o e g : Nat} {E G : List Int} {d : Bool} {w : World} (h : Ov B w o e g E G d) : Calls Try.prog 20 #[.pointer (some ⟨o, 0, none⟩)] w (FinSay E G w) := by
  obtain ⟨Post, hPost⟩ : ∃ Post : Ending → World → Prop, Post = FinSay E G w := ⟨_, rfl⟩
  rw [← hPost]
  have HP : Hid (∀ w' x cs, w.heap.size ≤ x → Blk w' x 67 cs → IsFin E G cs → Below w.heap.size w w' → Post (.returned (.pointer (some ⟨x, 0, none⟩))) w') := fun w' x cs h1 h2 h3 h4 => by rw [hPost]; exact ⟨x, cs, rfl, h1, h2, h3, h4⟩
  clear hPost
  have HO : Hid (Ov B w o e g E G d) := h
  clear h
  go_enter Try.func20, Try.ntmps20
  go_wp2_with fail
  refine region_L (fun u => Below w.heap.size w u) 99 (by kernel_rfl) ?_
  obtain ⟨va, hva⟩ : ∃ va, w.drew = va := ⟨_, rfl⟩
  have hHeld : Below w.heap.size w va := by rw [← hva]; exact (Below.refl _ w).drew
  have c0 : ∀ s : Sub (fun u => Below w.heap.size w u), s.w.cell? ⟨o, 0, none⟩ = some (.pointer (some ⟨e, 0, none⟩)) := fun s => (HO.out.on s.ok).c0
  have c1 : ∀ s : Sub (fun u => Below w.heap.size w u), s.w.cell? ⟨o, 1, none⟩ = some (.pointer (some ⟨g, 0, none⟩)) := fun s => (HO.out.on s.ok).c1
  have hne : Nonempty (Sub (fun u => Below w.heap.size w u)) := ⟨⟨_, hHeld⟩⟩
  rw [hva]
  clear hva
  refine take_L (i := 0) rfl (by kernel_rfl) (by kernel_rfl) (by kernel_rfl) (by kernel_rfl) (fun _ _ _ _ h => h) (by exact hHeld) (fun K hK => ?_)
  go_simp
  refine hK _ ?_
  clear hK K
  refine take_L (i := 1) rfl (by kernel_rfl) (by kernel_rfl) (by kernel_rfl) (by kernel_rfl) (fun _ _ _ _ h => h) (by exact hHeld) (fun K hK => ?_)
  go_simp
  refine hK _ ?_
  clear hK K
  refine take_L (i := 2) rfl (by kernel_rfl) (by kernel_rfl) (by kernel_rfl) (by kernel_rfl) (fun _ _ _ _ h => h) (by exact hHeld) (fun K hK => ?_)
  go_simp
  refine hK _ ?_
  clear hK K
  refine take_L (i := 3) rfl (by kernel_rfl) (by kernel_rfl) (by kernel_rfl) (by kernel_rfl) (fun _ _ _ _ h => h) (by exact hHeld) (fun K hK => ?_)
  go_simp
  refine hK _ ?_
  clear hK K
  refine take_L (i := 4) rfl (by kernel_rfl) (by kernel_rfl) (by kernel_rfl) (by kernel_rfl) (fun _ _ _ _ h => h) (by exact hHeld) (fun K hK => ?_)
  go_simp
  refine hK _ ?_
  clear hK K
  refine take_L (i := 5) rfl (by kernel_rfl) (by kernel_rfl) (by kernel_rfl) (by kernel_rfl) (fun _ _ _ _ h => h) (by exact hHeld) (fun K hK => ?_)
  go_simp
  refine hK _ ?_
  clear hK K
  refine take_L (i := 6) rfl (by kernel_rfl) (by kernel_rfl) (by kernel_rfl) (by kernel_rfl) (fun _ _ _ _ h => h) (by exact hHeld) (fun K hK => ?_)
  go_simp
  refine hK _ ?_
  clear hK K
  refine take_L (i := 7) rfl (by kernel_rfl) (by kernel_rfl) (by kernel_rfl) (by kernel_rfl) (fun _ _ _ _ h => h) (by exact hHeld) (fun K hK => ?_)
  go_simp
  refine hK _ ?_
  clear hK K
  refine take_L (i := 8) rfl (by kernel_rfl) (by kernel_rfl) (by kernel_rfl) (by kernel_rfl) (fun _ _ _ _ h => h) (by exact hHeld) (fun K hK => ?_)
  go_simp
  refine hK _ ?_
  clear hK K
  refine take_L (i := 9) rfl (by kernel_rfl) (by kernel_rfl) (by kernel_rfl) (by kernel_rfl) (fun _ _ _ _ h => h) (by exact hHeld) (fun K hK => ?_)
  go_simp
  refine hK _ ?_
  clear hK K
  refine take_L (i := 10) rfl (by kernel_rfl) (by kernel_rfl) (by kernel_rfl) (by kernel_rfl) (fun _ _ _ _ h => h) (by exact hHeld) (fun K hK => ?_)
  go_simp
  refine hK _ ?_
  clear hK K
  refine take_L (i := 11) rfl (by kernel_rfl) (by kernel_rfl) (by kernel_rfl) (by kernel_rfl) (fun _ _ _ _ h => h) (by exact hHeld) (fun K hK => ?_)
  go_simp
  refine hK _ ?_
  clear hK K
  refine take_L (i := 12) rfl (by kernel_rfl) (by kernel_rfl) (by kernel_rfl) (by kernel_rfl) (fun _ _ _ _ h => h) (by exact hHeld) (fun K hK => ?_)
  go_simp
  refine hK _ ?_
  clear hK K
  refine take_L (i := 13) rfl (by kernel_rfl) (by kernel_rfl) (by kernel_rfl) (by kernel_rfl) (fun _ _ _ _ h => h) (by exact hHeld) (fun K hK => ?_)
  go_simp
  refine hK _ ?_
  clear hK K
  refine take_L (i := 14) rfl (by kernel_rfl) (by kernel_rfl) (by kernel_rfl) (by kernel_rfl) (fun _ _ _ _ h => h) (by exact hHeld) (fun K hK => ?_)
  go_simp
  refine hK _ ?_
  clear hK K
  refine take_L (i := 15) rfl (by kernel_rfl) (by kernel_rfl) (by kernel_rfl) (by kernel_rfl) (fun _ _ _ _ h => h) (by exact hHeld) (fun K hK => ?_)
  go_simp
  refine hK _ ?_
  clear hK K
  refine one_L (i := 16) (by kernel_rfl) rfl (fun K hK => ?_)
  go_simp
  refine (edited_c (some ⟨e, 0, none⟩) (some ⟨g, 0, none⟩) _).mono ?_
  rintro _ w2 ⟨rfl, hw⟩
  obtain ⟨hx, hy, hb2⟩ := boxes_of hw
  clear hw
  have hb12 : Below w.heap.size w w2 := hHeld.trans (hb2.mono hHeld.size)
  refine hK.out _ _ (fun _ => hb12) ?_
  clear hK K
  refine one_L (i := 17) (by kernel_rfl) rfl (fun K hK => ?_)
  go_simp
  have hl := laid_c g G (some ⟨e, 0, none⟩) (some E) g G (va.heap.size + 1) va.heap.size w2 (HO.out.gb.on hb12) HO.out.sp.gl HO.out.sp.gk ⟨.inr ⟨e, E, rfl, rfl, HO.out.eb.on hb12, HO.out.sp.el, HO.out.sp.ek⟩⟩ (HO.out.gb.on hb12) HO.out.sp.gl HO.out.sp.gk hx hy
  refine hl.mono ?_
  clear hl
  rintro _ w3 ⟨rfl, cs, hB, hcl, hck, hca, hb3⟩
  have hb13 : Below w.heap.size w w3 := hb12.trans (hb3.mono hb12.size)
  have R := HP.out w3 w2.heap.size cs hb12.size hB (fin_of HO.out.sp hcl hck hca) hb13
  refine hK.out _ _ (fun _ => hb13) ?_
  clear hK K
  refine take_L (i := 18) rfl (by kernel_rfl) (by kernel_rfl) (by kernel_rfl) (by kernel_rfl) (fun _ _ _ _ h => h) (by exact hb13) (fun K hK => ?_)
  go_simp
  refine hK _ ?_
  clear hK K
  refine done_L (by kernel_rfl) ?_ _
  clear hne c0 c1
  go_wp2
  exact R
def sumTo (L : List Int) : Nat → Int
  | 0 => 0
  | n + 1 => sumTo L n + L.getD n 0
theorem sumTo_set (L : List Int) (k : Nat) (hk : k < L.length) (x : Int) : ∀ m, sumTo (L.set k (L.getD k 0 + x)) m = sumTo L m + if k < m then x else 0
  | 0 => by simp [sumTo]
  | m + 1 => by
    unfold sumTo
    rw [sumTo_set L k hk x m]
    by_cases e : k = m
    · subst e
      rw [getD_set_self _ _ _ hk, if_neg (by omega), if_pos (by omega)]
      omega
    · rw [C.getD_set_ne _ _ e]
      by_cases q : k < m
      · rw [if_pos q, if_pos (by omega)]; omega
      · rw [if_neg q, if_neg (by omega)]; omega
theorem sum17 {E : List Int} (hk : Kinds E) : ∀ n, sumTo (cntTo E n) 17 = n
  | 0 => by
    have e : ∀ m, m ≤ 17 → sumTo (cntTo E 0) m = 0 := by
      intro m
      induction m with
      | zero => intro _; rfl
      | succ m ih =>
        intro hm
        unfold sumTo
        rw [ih (by omega)]
        unfold cntTo
        rw [getD_replicate _ _ _ (by omega)]
        rfl
    exact e 17 (Nat.le_refl _)
  | n + 1 => by
    obtain ⟨b0, b1⟩ := hk.at n
    show sumTo ((cntTo E n).set (E.getD n 0).toNat ((cntTo E n).getD (E.getD n 0).toNat 0 + 1)) 17 = _
    rw [sumTo_set _ _ (by rw [cntTo_length]; omega), sum17 hk n, if_pos (by omega)]
    omega
theorem sum16 {E : List Int} (hk : Kinds E) : sumTo (cntTo E 32768) 16 = manyE E := by
  have h := sum17 hk 32768
  have e : sumTo (cntTo E 32768) 17 = sumTo (cntTo E 32768) 16 + (cntTo E 32768).getD 16 0 := rfl
  rw [e, cntTo_cnt E hk 16 (by omega)] at h
  unfold manyE
  have e16 : ((16 : Nat) : Int) = 16 := rfl
  rw [e16] at h
  omega
theorem sum_at (E : List Int) : ∀ m, m ≤ 16 → 0 ≤ sumTo (cntTo E 32768) m ∧ sumTo (cntTo E 32768) m ≤ m * 32768
  | 0, _ => by simp [sumTo]
  | m + 1, hm => by
    obtain ⟨a, b⟩ := sum_at E m (by omega)
    obtain ⟨c, d⟩ := cntTo_at E 32768 m (by omega)
    unfold sumTo
    constructor <;> omega
set_option maxHeartbeats 1000000 in
theorem many_o {B : Nat} {o e g : Nat} {E G : List Int} {d : Bool} {w : World} (h : Ov B w o e g E G d) : Calls Try.prog 22 #[.pointer (some ⟨o, 0, none⟩)] w fun r w' => r = .returned (.int .i64 (manyE E)) ∧ Below w.heap.size w w' := by
  have c0 := h.c0
  have hc := counts_c e E w h.eb h.sp.el h.sp.ek
  have HS : Hid (sumTo (cntTo E 32768) 16 = manyE E) := sum16 h.sp.ek
  have HA : Hid (∀ m, m ≤ 16 → 0 ≤ sumTo (cntTo E 32768) m ∧ sumTo (cntTo E 32768) m ≤ m * 32768) := sum_at E
  have hL : (cntTo E 32768).length = 17 := cntTo_length E _
  have HB : Hid (∀ m, m < 17 → 0 ≤ (cntTo E 32768).getD m 0 ∧ (cntTo E 32768).getD m 0 ≤ 32768) := fun m hm => cntTo_at E 32768 m hm
  generalize cntTo E 32768 = L at *
  generalize manyE E = M at *
  clear h
  go_enter Try.func22, Try.ntmps22
  go_wp2_with fail
  refine hc.mono ?_
  clear hc
  rintro _ w1 ⟨rfl, hB1, hb1⟩
  go_wp2
  go_loopw [3, 13] (fun m i wr => ∃ n : Nat, n ≤ 16 ∧ i = .int .i64 n ∧ m = .int .i64 (sumTo L n) ∧ wr = w1) (fun _ i _ => 16 - (intOf i).toNat)
  case atStart => exact ⟨0, Nat.zero_le _, rfl, rfl, rfl⟩
  case round =>
    obtain ⟨n, hn, rfl, rfl, hw⟩ := hrel
    subst hw
    by_cases hlt : n < 16
    · have hlt' : (n : Int) < 16 := by omega
      have hc := hB1.cell (k := n) (by omega)
      obtain ⟨a1, a2⟩ := HA.out n (by omega)
      obtain ⟨b1, b2⟩ := HB.out n (by omega)
      have HSn : Hid (sumTo L (n + 1) = sumTo L n + L.getD n 0) := rfl
      generalize L.getD n 0 = v at *
      generalize sumTo L n = u at *
      clear hB1
      go_wp2
      go_roundw
      case rel => exact ⟨n + 1, by omega, by go_num, by rw [HSn.out], trivial⟩
      case measure => simp [intOf]; omega
    · obtain rfl : n = 16 := by omega
      rw [HS.out]
      clear HS HA HB
      go_wp2
      go_ret
      exact ⟨rfl, hb1⟩
end Go.Proofs.Ythanmgejgmhccaa
