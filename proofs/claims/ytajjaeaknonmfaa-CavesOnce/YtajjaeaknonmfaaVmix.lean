/-
  Nine lists, of which the cells near the middle chunk are those of nine others: the middle chunk becomes the same. Copies of lists by and by.
-/
import Derived.Test.YtajjaeaknonmfaaVcarves
set_option maxRecDepth 20000
namespace Go.Proofs.Ytajjaeaknonmfaa
open C Go.RowKit

/-! ### plain -/
def nearB (i k : Nat) : Bool := decide (-2 ≤ (i : Int) % 3 * 16 + (k : Int) % 16 - 16 ∧ (i : Int) % 3 * 16 + (k : Int) % 16 - 16 < 18 ∧ -2 ≤ (i : Int) / 3 * 16 + (k : Int) / 16 % 16 - 16 ∧ (i : Int) / 3 * 16 + (k : Int) / 16 % 16 - 16 < 18)
/-- Up to a place the near cells are taken over. -/
def Mixed (css css2 cssT : List (List Int)) (i k : Nat) : Prop := ∀ j m, j < 9 → m < 32768 → (cssT.getD j []).getD m 0 = if (j < i ∨ (j = i ∧ m < k)) ∧ nearB j m then (css.getD j []).getD m 0 else (css2.getD j []).getD m 0
theorem Mixed.init (css css2 : List (List Int)) : Mixed css css2 css2 0 0 := fun j m _ _ => by rw [if_neg (by omega)]
theorem Mixed.next {css css2 cssT : List (List Int)} {i : Nat} (h : Mixed css css2 cssT i 32768) : Mixed css css2 cssT (i + 1) 0 := fun j m hj hm => by
  rw [h j m hj hm]
  by_cases e : (j < i ∨ (j = i ∧ m < 32768)) ∧ nearB j m
  · rw [if_pos e, if_pos ⟨by omega, e.2⟩]
  · rw [if_neg e, if_neg (fun h2 => e ⟨by omega, h2.2⟩)]
theorem Mixed.skip {css css2 cssT : List (List Int)} {i k : Nat} (h : Mixed css css2 cssT i k) (hn : ¬ nearB i k) : Mixed css css2 cssT i (k + 1) := fun j m hj hm => by
  rw [h j m hj hm]
  by_cases e : (j < i ∨ (j = i ∧ m < k)) ∧ nearB j m
  · rw [if_pos e, if_pos ⟨by omega, e.2⟩]
  · rw [if_neg e, if_neg (fun h2 => ?_)]
    by_cases e2 : j = i ∧ m = k
    · obtain ⟨rfl, rfl⟩ := e2
      exact hn h2.2
    · exact e ⟨by omega, h2.2⟩
theorem Mixed.put {css css2 cssT : List (List Int)} {i k : Nat} (h : Mixed css css2 cssT i k) (hn : nearB i k) (hi : i < 9) (hl : cssT.length = 9) (hk : k < 32768) (hc : (cssT.getD i []).length = 32768) : Mixed css css2 (cssT.set i ((cssT.getD i []).set k ((css.getD i []).getD k 0))) i (k + 1) := fun j m hj hm => by
  rw [getD_setL cssT i j _ (by omega)]
  by_cases e0 : i = j
  · subst e0
    rw [if_pos rfl]
    by_cases e1 : k = m
    · subst e1
      rw [C.getD_set_self _ k _ (by omega), if_pos ⟨by omega, hn⟩]
    · rw [C.getD_set_ne _ _ e1, h i m hj hm]
      by_cases e : (i < i ∨ (i = i ∧ m < k)) ∧ nearB i m
      · rw [if_pos e, if_pos ⟨by omega, e.2⟩]
      · rw [if_neg e, if_neg (fun h2 => e ⟨by omega, h2.2⟩)]
  · rw [if_neg e0, h j m hj hm]
    by_cases e : (j < i ∨ (j = i ∧ m < k)) ∧ nearB j m
    · rw [if_pos e, if_pos ⟨by omega, e.2⟩]
    · rw [if_neg e, if_neg (fun h2 => e ⟨by omega, h2.2⟩)]
theorem mixed_cell {css css2 cssT : List (List Int)} (h : Mixed css css2 cssT 9 0) {x y z : Int} (hx : -2 ≤ x ∧ x ≤ 17) (hy : 0 ≤ y ∧ y ≤ 127) (hz : -2 ≤ z ∧ z ≤ 17) : cellN cssT x y z = cellN css x y z := by
  unfold cellN
  obtain ⟨X, rfl⟩ : ∃ X : Nat, x = (X : Int) - 16 := ⟨(x + 16).toNat, by omega⟩
  obtain ⟨Z, rfl⟩ : ∃ Z : Nat, z = (Z : Int) - 16 := ⟨(z + 16).toNat, by omega⟩
  obtain ⟨Y, rfl⟩ := Int.eq_ofNat_of_zero_le hy.1
  rw [show (((Z : Int) - 16 + 16) / 16 * 3 + ((X : Int) - 16 + 16) / 16).toNat = Z / 16 * 3 + X / 16 by omega, show ((Y : Int) * 256 + ((Z : Int) - 16 + 16) % 16 * 16 + ((X : Int) - 16 + 16) % 16).toNat = Y * 256 + Z % 16 * 16 + X % 16 by omega]
  have hnear : nearB (Z / 16 * 3 + X / 16) (Y * 256 + Z % 16 * 16 + X % 16) = true := by
    have q1 : X / 16 < 3 := by omega
    have q2 : Z / 16 < 3 := by omega
    have q3 : X / 16 * 16 + X % 16 = X := by omega
    have q4 : Z / 16 * 16 + Z % 16 = Z := by omega
    have q5 : X % 16 < 16 := by omega
    have q6 : Z % 16 < 16 := by omega
    generalize X / 16 = XQ at *
    generalize Z / 16 = ZQ at *
    generalize X % 16 = XR at *
    generalize Z % 16 = ZR at *
    unfold nearB
    have e1 : ((ZQ * 3 + XQ : Nat) : Int) % 3 = XQ := by omega
    have e2 : ((ZQ * 3 + XQ : Nat) : Int) / 3 = ZQ := by omega
    have e3 : ((Y * 256 + ZR * 16 + XR : Nat) : Int) % 16 = XR := by omega
    have e4 : ((Y * 256 + ZR * 16 + XR : Nat) : Int) / 16 % 16 = ZR := by omega
    rw [e1, e2, e3, e4]
    exact decide_eq_true (by omega)
  rw [h _ _ (by omega) (by omega), if_pos ⟨by omega, hnear⟩]
theorem mixed_same {S : Nat} {cx cz : Int} {css css2 cssT : List (List Int)} (h : Mixed css css2 cssT 9 0) : carveN S cx cz cssT = carveN S cx cz css := by
  refine getD_ext (by rw [carveN_len, carveN_len]) (fun i hi => ?_)
  rw [carveN_len] at hi
  rw [carveN_at _ _ _ _ i hi, carveN_at _ _ _ _ i hi]
  unfold carvAt
  rw [open2_congr (css := cssT) (css' := css) (fun a b c a1 a2 b1 b2 c1 c2 => by
    unfold fitN
    by_cases hy : 6 ≤ (i : Int) / 256 + b ∧ (i : Int) / 256 + b ≤ 29
    · rw [mixed_cell h (by omega) (by omega) (by omega)]
    · rw [decide_eq_false hy]
      rfl), ← cell_own cssT i hi, ← cell_own css i hi, mixed_cell h (by omega) (by omega) (by omega)]
/-! ### copies by and by -/
def cpV (x : Nat × Nat) : Value := .slice (some ⟨x.1, 0, none⟩) 32768 x.2
structure ManyP (w0 : World) (f : Nat → List Int) (n : Nat) (av : Option Addr) (cv : Nat) (gs : List (Nat × Nat)) (w : World) : Prop where
  len : gs.length = n
  own : w.ownsRow w0.heap.size 38 1 (.slice av n cv) n (gs.map cpV)
  blk : ∀ i, i < n → Pre w (gs.getD i (0, 0)).1 5 (f i)
  low : ∀ x ∈ gs, w0.heap.size ≤ x.1
  nd : (gs.map (·.1)).Nodup
  bel : Below w0.heap.size w0 w
theorem ManyP.init {w0 : World} {f : Nat → List Int} : ManyP w0 f 0 none 0 [] w0 :=
  ⟨rfl, World.ownsRow_nil _ _ _ _, fun i hi => (by omega), fun x hx => (by cases hx), List.nodup_nil, Below.refl _ _⟩
theorem ManyP.lt {w0 w : World} {f : Nat → List Int} {n : Nat} {av : Option Addr} {cv : Nat} {gs : List (Nat × Nat)} (h : ManyP w0 f n av cv gs w) : ∀ x ∈ gs.map (·.1), x < w.heap.size := fun x hx => by
  obtain ⟨i, hi, rfl⟩ := List.getElem_of_mem hx
  have hi' : i < gs.length := by simpa using hi
  have := (h.blk i (by have := h.len; omega)).lt
  rw [List.getD_eq_getElem?_getD, List.getElem?_eq_getElem hi'] at this
  simpa using this
theorem ManyP.on {w0 w w' : World} {f : Nat → List Int} {n : Nat} {av : Option Addr} {cv : Nat} {gs : List (Nat × Nat)} (h : ManyP w0 f n av cv gs w) (hb : Below w.heap.size w w') : ManyP w0 f n av cv gs w' :=
  ⟨h.len, ownsRow_on h.own hb, fun i hi => (h.blk i hi).below hb (h.blk i hi).lt, h.low, h.nd, h.bel.trans (hb.mono h.bel.size)⟩
theorem pre_other {w w' : World} {B n : Nat} {v : Value} {L : List Value} (h : w.ownsRow B 38 1 v n L) (hg : w.grownBy w' v.ownBlock) {b : Nat} {cs : List Int} (hb : Pre w b 5 cs) : Pre w' b 5 cs := by
  obtain ⟨cur, h1, h2⟩ := hb
  exact ⟨cur, row_other h hg h1 (by decide), h2⟩
theorem ManyP.add {w0 w w' : World} {f : Nat → List Int} {n : Nat} {av a' : Option Addr} {cv c' : Nat} {x : Nat × Nat} {gs : List (Nat × Nat)} (h : ManyP w0 f n av cv gs w) (hg : Pre w x.1 5 (f n)) (hlo : w0.heap.size ≤ x.1) (hnew : x.1 ∉ gs.map (·.1))
    (ho : w'.ownsRow w0.heap.size 38 1 (.slice a' (n + 1) c') (n + 1) (gs.map cpV ++ [cpV x])) (hgr : w.grownBy w' (Value.ownBlock (.slice av n cv))) : ManyP w0 f (n + 1) a' c' (gs ++ [x]) w' := by
  have hl := h.len
  refine ⟨by rw [List.length_append]; simp [hl], by rw [List.map_append]; exact ho, fun i hi => ?_, fun y hy => ?_, ?_, h.bel.trans (row_low h.own hgr h.bel.size)⟩
  · by_cases e1 : i < n
    · rw [List.getD_eq_getElem?_getD, List.getElem?_append_left (by omega), ← List.getD_eq_getElem?_getD]
      exact pre_other h.own hgr (h.blk i e1)
    · obtain rfl : i = n := by omega
      rw [List.getD_eq_getElem?_getD, List.getElem?_append_right (by omega), hl, Nat.sub_self]
      exact pre_other h.own hgr hg
  · rcases List.mem_append.1 hy with h1 | h1
    · exact h.low y h1
    · obtain rfl := List.mem_singleton.1 h1
      exact hlo
  · rw [List.map_append, List.nodup_append]
    refine ⟨h.nd, by simp, fun a ha b hb e1 => ?_⟩
    obtain rfl : b = x.1 := by simpa using hb
    exact hnew (e1 ▸ ha)
theorem ManyP.b9 {w0 w : World} {css : List (List Int)} {av : Option Addr} {cv : Nat} {gs : List (Nat × Nat)} (h : ManyP w0 (fun i => css.getD i []) 9 av cv gs w) (hn : css.length = 9) (hl : ∀ i, i < 9 → (css.getD i []).length = 32768) (hk : ∀ i, i < 9 → Kinds (css.getD i [])) :
    ∃ b, av = some ⟨b, 0, none⟩ ∧ B9 w b (fun i => (gs.getD i (0, 0)).1) (fun i => (gs.getD i (0, 0)).2) css ∧ Apart9 (fun i => (gs.getD i (0, 0)).1) ∧ ∀ i, i < 9 → w0.heap.size ≤ (gs.getD i (0, 0)).1 := by
  have ho := h.own
  have hlen := h.len
  obtain ⟨b, rfl⟩ : ∃ b, av = some ⟨b, 0, none⟩ := by
    rcases ho.2 with ⟨_, h1⟩ | ⟨g, cap, cur, hv, _⟩
    · omega
    · simp only [Value.slice.injEq] at hv
      exact ⟨g, hv.1⟩
  refine ⟨b, rfl, ⟨hn, fun i hi => ?_, h.blk, hl, hk⟩, fun i j hi hj hij e1 => ?_, fun i hi => ?_⟩
  · rw [ownsRow_cell ho i (by omega), List.getElem?_map, List.getD_eq_getElem?_getD, List.getElem?_eq_getElem (by omega)]
    rfl
  · simp only [List.getD_eq_getElem?_getD, List.getElem?_eq_getElem (show i < gs.length by omega), List.getElem?_eq_getElem (show j < gs.length by omega), Option.getD_some] at e1
    rcases Nat.lt_or_gt_of_ne hij with h1 | h1
    · exact List.pairwise_iff_getElem.1 h.nd i j (by simpa using (show i < gs.length by omega)) (by simpa using (show j < gs.length by omega)) h1 (by simpa using e1)
    · exact List.pairwise_iff_getElem.1 h.nd j i (by simpa using (show j < gs.length by omega)) (by simpa using (show i < gs.length by omega)) h1 (by simpa using e1.symm)
  · rw [List.getD_eq_getElem?_getD, List.getElem?_eq_getElem (show i < gs.length by omega)]
    exact h.low _ (List.getElem_mem _)
end Go.Proofs.Ytajjaeaknonmfaa