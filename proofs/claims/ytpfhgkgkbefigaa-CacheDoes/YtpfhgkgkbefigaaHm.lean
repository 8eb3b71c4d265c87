/-
  Heaps: the mathematics. A row of numbers whose every one is not below the one that stands over it.
-/
import Derived.Test.YtpfhgkgkbefigaaProg
import Derived.WalkKit
import Derived.WalkLawsBesides
import Derived.WalkSpells
import Derived.Below
import Derived.Deep.MidRow
import Derived.Deep.OwnRows
namespace Go.Proofs.Ytpfhgkgkbefigaa

def par (i : Nat) : Nat := (i - 1) / 2
def Heap (n : Nat) (f : Nat → Nat) : Prop := ∀ i, 0 < i → i < n → f (par i) ≤ f i
/-- All is in order but what touches i; what stands over i is not above what stands under it. -/
structure DI (n : Nat) (f : Nat → Nat) (i : Nat) : Prop where
  e : ∀ j, 0 < j → j < n → par j ≠ i → j ≠ i → f (par j) ≤ f j
  g : 0 < i → ∀ j, 0 < j → j < n → par j = i → f (par i) ≤ f j
/-- All is in order but j and what stands over it. -/
structure UI (n : Nat) (f : Nat → Nat) (j : Nat) : Prop where
  e : ∀ k, 0 < k → k < n → k ≠ j → f (par k) ≤ f k
  g : 0 < j → ∀ k, 0 < k → k < n → par k = j → f (par j) ≤ f k
def sw (f : Nat → Nat) (i j : Nat) : Nat → Nat := fun k => if k = i then f j else if k = j then f i else f k
theorem sw_l (f : Nat → Nat) (i j : Nat) : sw f i j i = f j := by simp [sw]
theorem sw_r (f : Nat → Nat) (i j : Nat) : sw f i j j = f i := by
  unfold sw
  split
  · rename_i h; rw [h]
  · simp
theorem sw_o {f : Nat → Nat} {i j k : Nat} (h1 : k ≠ i) (h2 : k ≠ j) : sw f i j k = f k := by simp [sw, h1, h2]
theorem par_lt {i : Nat} (h : 0 < i) : par i < i := by unfold par; omega
theorem Heap.root {n : Nat} {f : Nat → Nat} (h : Heap n f) : ∀ m i, i < m → i < n → f 0 ≤ f i := by
  intro m
  induction m with
  | zero => intro i hi; omega
  | succ m ih =>
    intro i hi hn
    by_cases h0 : i = 0
    · subst h0; exact Nat.le_refl _
    · have hp := par_lt (by omega : 0 < i)
      exact Nat.le_trans (ih (par i) (by omega) (by omega)) (h i (by omega) hn)
/-- One is another one. -/
theorem Heap.other {m n : Nat} {f f' : Nat → Nat} {i : Nat} (h : Heap m f) (hn : n ≤ m) (e : ∀ k, k < n → k ≠ i → f' k = f k) : DI n f' i := by
  refine ⟨fun j h0 hj hp hi => ?_, fun h0 j hj0 hj hp => ?_⟩
  · rw [e j hj hi, e (par j) (by have := par_lt h0; omega) hp]
    exact h j h0 (by omega)
  · have h1 := par_lt h0
    have h2 := par_lt hj0
    rw [e j hj (by omega), e (par i) (by omega) (by omega)]
    have h3 := h j hj0 (by omega)
    have h4 := h i h0 (by omega)
    rw [hp] at h3
    omega
/-- One more at the end. -/
theorem Heap.more {n : Nat} {f f' : Nat → Nat} (h : Heap n f) (e : ∀ k, k < n → f' k = f k) : UI (n + 1) f' n := by
  refine ⟨fun k h0 hk hne => ?_, fun h0 k hk0 hk hp => ?_⟩
  · rw [e k (by omega), e (par k) (by have := par_lt h0; omega)]
    exact h k h0 (by omega)
  · have := par_lt hk0
    omega
theorem Heap.less {m n : Nat} {f f' : Nat → Nat} (h : Heap m f) (hn : n ≤ m) (e : ∀ k, k < n → f' k = f k) : Heap n f' := by
  intro i h0 hi
  rw [e i hi, e (par i) (by have := par_lt h0; omega)]
  exact h i h0 (by omega)
/-- One step down. -/
theorem DI.step {n : Nat} {f : Nat → Nat} {i c : Nat} (h : DI n f i) (hup : 0 < i → f (par i) ≤ f i ∨ True) (c0 : 0 < c) (cn : c < n) (cp : par c = i) (lt : f c < f i) (least : ∀ d, 0 < d → d < n → par d = i → f c ≤ f d) :
    DI n (sw f i c) c ∧ sw f i c (par c) ≤ sw f i c c := by
  have hc := par_lt c0
  refine ⟨⟨fun j h0 hj hp hne => ?_, fun _ j hj0 hj hp => ?_⟩, ?_⟩
  · by_cases hji : j = i
    · subst hji
      have h1 := par_lt h0
      rw [sw_l, sw_o (by omega) hp]
      exact h.g h0 c c0 cn cp
    · rw [sw_o hji hne]
      by_cases hpi : par j = i
      · rw [hpi, sw_l]
        exact least j h0 hj hpi
      · rw [sw_o hpi hp]
        exact h.e j h0 hj hpi hji
  · have h1 := par_lt hj0
    rw [cp, sw_l, sw_o (by omega) (by omega)]
    have := h.e j hj0 hj (by omega) (by omega)
    rw [hp] at this
    exact this
  · rw [cp, sw_l, sw_r]
    omega
theorem DI.up {n : Nat} {f : Nat → Nat} {i : Nat} (h : DI n f i) (hd : ∀ d, 0 < d → d < n → par d = i → f i ≤ f d) : UI n f i := by
  refine ⟨fun k h0 hk hne => ?_, h.g⟩
  by_cases hp : par k = i
  · rw [hp]; exact hd k h0 hk hp
  · exact h.e k h0 hk hp hne
theorem DI.heap {n : Nat} {f : Nat → Nat} {i : Nat} (h : DI n f i) (hu : f (par i) ≤ f i) (hd : ∀ d, 0 < d → d < n → par d = i → f i ≤ f d) : Heap n f := by
  intro k h0 hk
  by_cases hp : par k = i
  · rw [hp]; exact hd k h0 hk hp
  · by_cases hne : k = i
    · subst hne; exact hu
    · exact h.e k h0 hk hp hne
/-- One step up. -/
theorem UI.step {n : Nat} {f : Nat → Nat} {j : Nat} (h : UI n f j) (j0 : 0 < j) (jn : j < n) (lt : f j < f (par j)) : UI n (sw f (par j) j) (par j) := by
  have hj := par_lt j0
  refine ⟨fun k h0 hk hne => ?_, fun h0 k hk0 hk hp => ?_⟩
  · by_cases hkj : k = j
    · subst hkj
      rw [sw_l, sw_r]
      omega
    · rw [sw_o hne hkj]
      have he := h.e k h0 hk hkj
      by_cases hp : par k = par j
      · rw [hp] at he ⊢
        rw [sw_l]
        omega
      · by_cases hp2 : par k = j
        · rw [hp2, sw_r]
          exact h.g j0 k h0 hk hp2
        · rw [sw_o hp hp2]
          exact he
  · have h1 := par_lt h0
    have h2 := par_lt hk0
    rw [sw_o (by omega) (by omega)]
    have he := h.e (par j) h0 (by omega) (by omega)
    by_cases hkj : k = j
    · subst hkj
      rw [sw_r]
      exact he
    · rw [sw_o (by omega) hkj]
      have he2 := h.e k hk0 hk hkj
      rw [hp] at he2
      omega
theorem UI.heap {n : Nat} {f : Nat → Nat} {j : Nat} (h : UI n f j) (hu : 0 < j → f (par j) ≤ f j) : Heap n f := by
  intro k h0 hk
  by_cases hne : k = j
  · subst hne; exact hu h0
  · exact h.e k h0 hk hne

/-! ### rows -/
/-- A row with two of its places exchanged. -/
def swL (q : List Nat) (i j : Nat) : List Nat := (q.set i (q.getD j 0)).set j (q.getD i 0)
theorem swL_len (q : List Nat) (i j : Nat) : (swL q i j).length = q.length := by simp [swL]
theorem getD_set_other {l : List Nat} {i k a : Nat} (h : k ≠ i) : (l.set i a).getD k 0 = l.getD k 0 := by
  simp only [List.getD_eq_getElem?_getD]
  rw [List.getElem?_set_ne (Ne.symm h)]
theorem getD_set_self {l : List Nat} {i a : Nat} (h : i < l.length) : (l.set i a).getD i 0 = a := by
  simp [List.getD_eq_getElem?_getD, h]
theorem swL_r {q : List Nat} {i j : Nat} (hj : j < q.length) : (swL q i j).getD j 0 = q.getD i 0 := getD_set_self (by simpa using hj)
theorem swL_l {q : List Nat} {i j : Nat} (hi : i < q.length) (hj : j < q.length) : (swL q i j).getD i 0 = q.getD j 0 := by
  by_cases h : i = j
  · subst h; exact swL_r hj
  · unfold swL
    rw [getD_set_other h, getD_set_self hi]
theorem swL_o {q : List Nat} {i j k : Nat} (h1 : k ≠ i) (h2 : k ≠ j) : (swL q i j).getD k 0 = q.getD k 0 := by
  unfold swL
  rw [getD_set_other h2, getD_set_other h1]
theorem swL_perm {q : List Nat} {i j : Nat} (hi : i < q.length) (hj : j < q.length) : (swL q i j).Perm q := by
  have := List.set_set_perm hi hj
  unfold swL
  rw [show q.getD j 0 = q[j] by simp [hj], show q.getD i 0 = q[i] by simp [hi]]
  exact this
/-- What the places are worth. -/
def fq (U : Nat → Nat) (q : List Nat) : Nat → Nat := fun k => U (q.getD k 0)
theorem fq_sw {U : Nat → Nat} {q : List Nat} {i j : Nat} (hi : i < q.length) (hj : j < q.length) : fq U (swL q i j) = sw (fq U q) i j := by
  funext k
  unfold fq sw
  by_cases h1 : k = i
  · subst h1; rw [if_pos rfl, swL_l hi hj]
  · rw [if_neg h1]
    by_cases h2 : k = j
    · subst h2; rw [if_pos rfl, swL_r hj]
    · rw [if_neg h2, swL_o h1 h2]
theorem getD_mem {q : List Nat} {i : Nat} (h : i < q.length) : q.getD i 0 ∈ q := by
  rw [show q.getD i 0 = q[i] by simp [h]]
  exact List.getElem_mem h
theorem getD_inj {q : List Nat} (hn : q.Nodup) {i j : Nat} (hi : i < q.length) (hj : j < q.length) (e : q.getD i 0 = q.getD j 0) : i = j := by
  rw [show q.getD i 0 = q[i] by simp [hi], show q.getD j 0 = q[j] by simp [hj]] at e
  exact (List.getElem_inj hn).1 e
theorem mem_getD {q : List Nat} {b : Nat} (h : b ∈ q) : ∃ i, i < q.length ∧ q.getD i 0 = b := by
  obtain ⟨i, hi, e⟩ := List.getElem_of_mem h
  exact ⟨i, hi, by rw [← e]; simp [hi]⟩
end Go.Proofs.Ytpfhgkgkbefigaa
