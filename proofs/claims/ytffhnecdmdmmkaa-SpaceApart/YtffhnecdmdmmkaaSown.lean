/-
  A row of owners beside a space.
-/
import Derived.Test.YtffhnecdmdmmkaaSfits
set_option maxRecDepth 20000
namespace Go.Proofs.Ytffhnecdmdmmkaa
open Go.RowKit

/-- The owners, beside the numbers that are taken. -/
structure Own (h : Nat) (T : List Bool) (O : List Int) : Prop where
  len : O.length = T.length
  one : ∀ i, i < T.length → (O.getD i 0 ≠ 0 ↔ T.getD i false = true)
  low : ∀ i, i < h → O.getD i 0 = 0
  bd : ∀ i, 0 ≤ O.getD i 0 ∧ O.getD i 0 ≤ 300
theorem getD_set' {α : Type} (l : List α) (k i : Nat) (v d : α) (hk : k < l.length) : (l.set k v).getD i d = if k = i then v else l.getD i d := by
  rw [List.getD_eq_getElem?_getD, List.getD_eq_getElem?_getD, List.getElem?_set]
  by_cases e : k = i
  · rw [if_pos e, if_pos e, if_pos hk]; rfl
  · rw [if_neg e, if_neg e]
theorem setS_getD {T : List Bool} {f m : Nat} (h : f + m ≤ T.length) (b : Bool) (i : Nat) : (setS T f m b).getD i false = if f ≤ i ∧ i < f + m then b else T.getD i false := by
  rw [List.getD_eq_getElem?_getD, setS_at h, List.getD_eq_getElem?_getD]
  split <;> rfl
theorem Own.new (h n : Nat) : Own h (List.replicate n false) (List.replicate n 0) := by
  have e : ∀ i, (List.replicate n (0 : Int)).getD i 0 = 0 := fun i => by
    rw [List.getD_eq_getElem?_getD, List.getElem?_replicate]
    split <;> rfl
  have e2 : ∀ i, (List.replicate n false).getD i false = false := fun i => by
    rw [List.getD_eq_getElem?_getD, List.getElem?_replicate]
    split <;> rfl
  refine ⟨by simp, fun i _ => ?_, fun i _ => e i, fun i => by rw [e i]; omega⟩
  rw [e, e2]
  simp
theorem Own.free {h : Nat} {T : List Bool} {O : List Int} (H : Own h T O) {k : Nat} (hk : k < T.length) (ho : O.getD k 0 ≠ 0) : erS h T (k : Int) 1 true = 0 ∧ Own h (doS h T (k : Int) 1 true false) (O.set k 0) := by
  have hT : T.getD k false = true := (H.one k hk).1 ho
  have hh : h ≤ k := Nat.le_of_not_lt (fun hlt => ho (H.low k hlt))
  have hm : mayB h T (k : Int) 1 true = true := by
    unfold mayB
    rw [Bool.and_eq_true, decide_eq_true_iff]
    refine ⟨by omega, ?_⟩
    rw [Int.toNat_natCast]
    refine (allS_iff (show k + (1 : Int).toNat ≤ T.length by omega) true).2 (fun i h1 h2 => ?_)
    obtain rfl : i = k := by omega
    exact get_of hk hT
  refine ⟨by unfold erS; rw [hm]; rfl, ?_⟩
  unfold doS
  rw [hm, if_pos rfl, Int.toNat_natCast, show (1 : Int).toNat = 1 from rfl]
  have hl : (setS T k 1 false).length = T.length := setS_len (by omega) _
  have hk' : k < O.length := by rw [H.len]; exact hk
  refine ⟨by rw [List.length_set, hl]; exact H.len, fun i hi => ?_, fun i hi => ?_, fun i => ?_⟩
  · rw [getD_set' _ _ _ _ _ hk', setS_getD (by omega)]
    rw [hl] at hi
    by_cases e : k = i
    · rw [if_pos e, if_pos (by omega)]; simp
    · rw [if_neg e, if_neg (by omega)]; exact H.one i hi
  · rw [getD_set' _ _ _ _ _ hk']
    split
    · rfl
    · exact H.low i hi
  · rw [getD_set' _ _ _ _ _ hk']
    split
    · omega
    · exact H.bd i
/-- m from p on are v's. -/
def setO (O : List Int) (p : Nat) (v : Int) : Nat → List Int
  | 0 => O
  | j + 1 => (setO O p v j).set (p + j) v
theorem setO_len (O : List Int) (p : Nat) (v : Int) : ∀ j, (setO O p v j).length = O.length
  | 0 => rfl
  | j + 1 => by rw [setO, List.length_set, setO_len O p v j]
theorem setO_getD (O : List Int) (p : Nat) (v : Int) (i : Nat) : ∀ j, p + j ≤ O.length → (setO O p v j).getD i 0 = if p ≤ i ∧ i < p + j then v else O.getD i 0
  | 0, _ => by rw [setO, if_neg (by omega)]
  | j + 1, hj => by
    rw [setO, getD_set' _ _ _ _ _ (by rw [setO_len]; omega), setO_getD O p v i j (by omega)]
    by_cases e : p + j = i
    · rw [if_pos e, if_pos (by omega)]
    · rw [if_neg e]
      by_cases e2 : p ≤ i ∧ i < p + j
      · rw [if_pos e2, if_pos (by omega)]
      · rw [if_neg e2, if_neg (by omega)]
/-- What is taken was no one's. -/
theorem Own.zero {h : Nat} {T : List Bool} {O : List Int} (H : Own h T O) {p m j : Nat} (hp : p + m ≤ T.length) (ha : allS T p m false = true) (hj : j < m) (v : Int) : (setO O p v j).getD (p + j) 0 = 0 := by
  rw [setO_getD O p v _ j (by rw [H.len]; omega), if_neg (by omega)]
  have h1 := getD_of ((allS_iff hp false).1 ha (p + j) (by omega) (by omega))
  refine Decidable.byContradiction (fun hne => ?_)
  rw [(H.one (p + j) (by omega)).1 hne] at h1
  cases h1
theorem Own.take {h : Nat} {T : List Bool} {O : List Int} (H : Own h T O) {p m : Nat} (hh : h ≤ p) (hp : p + m ≤ T.length) {v : Int} (hv : 1 ≤ v ∧ v ≤ 300) : Own h (setS T p m true) (setO O p v m) := by
  have hl : (setS T p m true).length = T.length := setS_len hp _
  have hO : p + m ≤ O.length := by rw [H.len]; exact hp
  refine ⟨by rw [setO_len, hl]; exact H.len, fun i hi => ?_, fun i hi => ?_, fun i => ?_⟩
  · rw [setO_getD _ _ _ _ _ hO, setS_getD hp]
    rw [hl] at hi
    by_cases e : p ≤ i ∧ i < p + m
    · rw [if_pos e, if_pos e]
      simp; omega
    · rw [if_neg e, if_neg e]; exact H.one i hi
  · rw [setO_getD _ _ _ _ _ hO, if_neg (by omega)]; exact H.low i hi
  · rw [setO_getD _ _ _ _ _ hO]
    split
    · omega
    · exact H.bd i
/-- What is free is no one's. -/
theorem Own.span {h : Nat} {T : List Bool} {O : List Int} (H : Own h T O) (hh : h ≤ T.length) {x : Sp} (hx : x ∈ spansS h T) {k : Nat} (hk : k < x.2) : h ≤ x.1 + k ∧ x.1 + k < T.length ∧ O.getD (x.1 + k) 0 = 0 := by
  have h1 := (spans_is hh).ins x hx
  refine ⟨by omega, by omega, Decidable.byContradiction (fun hne => ?_)⟩
  have h2 := h1.2.2.2 (x.1 + k) (by omega) (by omega)
  rw [(H.one _ (by omega)).1 hne] at h2
  cases h2
/-- How many of the first j from h on are someone's. -/
def cntO (h : Nat) (O : List Int) : Nat → Nat
  | 0 => 0
  | j + 1 => cntO h O j + if O.getD (h + j) 0 = 0 then 0 else 1
theorem Own.count {h : Nat} {T : List Bool} {O : List Int} (H : Own h T O) : ∀ j, h + j ≤ T.length → roomS (spTo h T j) + cntO h O j = j
  | 0, _ => by simp [spTo, roomS, cntO]
  | j + 1, hj => by
    have ih := H.count j (by omega)
    have h1 := H.one (h + j) (by omega)
    rw [spTo, cntO]
    by_cases e : T.getD (h + j) false = true
    · rw [if_pos e, if_neg (h1.2 e)]; omega
    · have e0 : O.getD (h + j) 0 = 0 := Decidable.byContradiction (fun hne => e (h1.1 hne))
      rw [if_neg e, if_pos e0, room_add]; omega
theorem cntO_le (h : Nat) (O : List Int) : ∀ j, cntO h O j ≤ j
  | 0 => Nat.le_refl _
  | j + 1 => by have := cntO_le h O j; rw [cntO]; split <;> omega
theorem Own.whole {h : Nat} {T : List Bool} {O : List Int} (H : Own h T O) (hh : h ≤ T.length) : roomS (spansS h T) + cntO h O (T.length - h) = T.length - h := H.count _ (by omega)
theorem room_take {l : List Sp} {i : Nat} (hi : i < l.length) : roomS (l.take (i + 1)) = roomS (l.take i) + l[i].2 := by
  unfold roomS
  rw [List.take_add_one, List.getElem?_eq_getElem hi, Option.toList_some, List.map_append, List.sum_append]
  simp only [List.map_cons, List.map_nil, List.sum_cons, List.sum_nil, Nat.add_zero]
/-! ### memory -/
def ivals (O : List Int) : Array Value := (O.map (Value.int .i64)).toArray
structure Sa (J : SSpec) (F : Nat → Prop) (w1 w : World) (g hd ob : Nat) (T : List Bool) (O : List Int) : Prop where
  sk : Sk J F w1 w g hd T
  row : w.heap[ob]? = some (.cells (ivals O) 3 (0, 0))
  nf : ¬ F ob
  lo : w1.heap.size ≤ ob
section
variable {J : SSpec} {F : Nat → Prop} {w1 w : World} {g hd ob : Nat} {T : List Bool} {O : List Int}
theorem Sa.at (H : Sa J F w1 w g hd ob T O) {i : Nat} (hi : i < O.length) : w.cell? ⟨ob, i, none⟩ = some (.int .i64 (O.getD i 0)) := by
  rw [cell_of_row w ob i _ 3 (0, 0) H.row, List.getD_eq_getElem?_getD, List.getElem?_eq_getElem hi]
  simp [ivals, hi]
theorem Sa.frozen (H : Sa J F w1 w g hd ob T O) (i : Nat) : w.frozen? ⟨ob, i, none⟩ = false := frozen_of_row w _ _ _ 3 H.row
theorem Sa.on {w' : World} (H : Sa J F w1 w g hd ob T O) (hb : Below w.heap.size w w') : Sa J F w1 w' g hd ob T O := ⟨H.sk.on hb, (hb.block ob (Array.getElem?_eq_some_iff.1 H.row).1).trans H.row, H.nf, H.lo⟩
theorem Sa.drewN (H : Sa J F w1 w g hd ob T O) (k : Nat) : Sa J F w1 (w.drewN k) g hd ob T O := H.on ⟨rfl, rfl, rfl, Nat.le_refl _, fun _ _ => rfl⟩
theorem Sa.stp {F' : Nat → Prop} {w' : World} {T' : List Bool} (H : Sa J F w1 w g hd ob T O) (hS : Sk J F' w1 w' g hd T') (hT : Stp F w F' w') : Sa J F' w1 w' g hd ob T' O := by
  have h1 := hT.block ob (Array.getElem?_eq_some_iff.1 H.row).1 H.nf
  exact ⟨hS, h1.1.trans H.row, h1.2, H.lo⟩
theorem Sa.set (H : Sa J F w1 w g hd ob T O) (i : Nat) (v : Int) : Sa J F w1 (w.setCell ⟨ob, i, none⟩ (.int .i64 v)) g hd ob T (O.set i v) := by
  have hO : Only ob w (w.setCell ⟨ob, i, none⟩ (.int .i64 v)) := (Only.refl _ _).set _ _
  have hC : Chg (fun k => k = ob) w (w.setCell ⟨ob, i, none⟩ (.int .i64 v)) := ⟨hO.os, hO.tape, hO.output, Nat.le_of_eq hO.size.symm, fun k _ hk => hO.block k hk⟩
  refine ⟨H.sk.chg hC H.nf H.lo, ?_, H.nf, H.lo⟩
  rw [heap_setCell_same w ob i _ 3 _ H.row]
  simp [ivals]
theorem afree (H : Sa J F w1 w g hd ob T O) (f m : Int) (hf : I64 f) (hm : I64 m) : Calls Try.prog 18 #[.pointer (some ⟨g, 0, none⟩), .agg #[.int .i64 f, .int .i64 m]] w fun e w' => e = .returned (.int .i64 (erS hd T f m true)) ∧ ∃ F', Sa J F' w1 w' g hd ob (doS hd T f m true false) O := by
  refine (sfree H.sk f m hf hm).mono ?_
  rintro e w' ⟨he, F', hS, hT⟩
  exact ⟨he, F', H.stp hS hT⟩
theorem atake (H : Sa J F w1 w g hd ob T O) (n : Int) (hn : I64 n) : Calls Try.prog 14 #[.pointer (some ⟨g, 0, none⟩), .int .i64 n] w fun e w' => e = .returned (.tuple #[.int .i64 (tkS hd T n).1, .int .i64 (tkS hd T n).2.1]) ∧ ∃ F', Sa J F' w1 w' g hd ob (tkS hd T n).2.2 O := by
  refine (stake H.sk n hn).mono ?_
  rintro e w' ⟨he, F', hS, hT⟩
  exact ⟨he, F', H.stp hS hT⟩
theorem aspans (H : Sa J F w1 w g hd ob T O) : Calls Try.prog 20 #[.pointer (some ⟨g, 0, none⟩)] w fun e w' => ∃ F' a c lo, e = .returned (.slice a (spansS hd T).length c) ∧ Sa J F' w1 w' g hd ob T O ∧ OwnSp w' lo a c (spansS hd T) := by
  refine (sspans H.sk).mono ?_
  rintro e w' ⟨F', a, c, he, hS, hT, hO, _⟩
  exact ⟨F', a, c, _, he, H.stp hS hT, hO⟩
end
theorem info3 : (Try.prog.info? 3).map (fun i => (i.zero, i.size, i.bytes)) = some (some (.int .i64 0), 1, 8) := by kernel_rfl
end Go.Proofs.Ytffhnecdmdmmkaa
