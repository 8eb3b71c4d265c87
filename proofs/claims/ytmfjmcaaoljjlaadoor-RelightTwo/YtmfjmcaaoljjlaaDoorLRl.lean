/-
  Plain: light that spreads. What light reaches a cell; a field of levels that tells it; cells that wait in lists by their level.
  Plain: a box of cells; neighbours; what kinds do with light; the sky's and the lamps' light of a box as systems of spreading light.
  Plain: the field of nine chunks; the middle chunk's cells in it; what is told of their light; the laws' own claims.
  Plain: a cell of the middle chunk that becomes another kind; chunks that are turned about.
  Plain: light that is made anew: cells that are darkened, and cells that wait by their level.
-/
import Derived.Test.YtmfjmcaaoljjlaaDoorProg
namespace Go.Proofs.YtmfjmcaaoljjlaaDoor.L
section
/-- Cells from 0 on below n; what shines of its own; whether light comes in, and what it loses there; which cells touch. -/
structure Sys where
  n : Nat
  src : Nat → Nat
  pass : Nat → Bool
  loss : Nat → Nat
  adj : Nat → Nat → Prop
  loss_pos : ∀ i, pass i = true → 1 ≤ loss i
  src_le : ∀ i, src i ≤ 15
  adj_lt : ∀ i j, adj i j → j < n

/-- Light of at least that level is at a cell, by so many steps at most. -/
def LitN (s : Sys) : Nat → Nat → Nat → Prop
  | 0, i, v => v ≤ s.src i
  | n + 1, i, v => v ≤ s.src i ∨ ∃ j u, LitN s n j u ∧ s.adj j i ∧ s.pass i = true ∧ v + s.loss i ≤ u
/-- Light of at least that level is at a cell. -/
def Lit (s : Sys) (i v : Nat) : Prop := ∃ n, LitN s n i v
theorem Lit.own {s : Sys} {i v : Nat} (h : v ≤ s.src i) : Lit s i v := ⟨0, h⟩
theorem Lit.comes {s : Sys} {j i u v : Nat} (h1 : Lit s j u) (h2 : s.adj j i) (h3 : s.pass i = true) (h4 : v + s.loss i ≤ u) : Lit s i v := by
  obtain ⟨n, h1⟩ := h1
  exact ⟨n + 1, .inr ⟨j, u, h1, h2, h3, h4⟩⟩
theorem Lit.ind {s : Sys} {motive : (i v : Nat) → Lit s i v → Prop} (own : ∀ {i v : Nat} (h : v ≤ s.src i), motive i v (.own h))
    (comes : ∀ {j i u v : Nat} (h1 : Lit s j u) (h2 : s.adj j i) (h3 : s.pass i = true) (h4 : v + s.loss i ≤ u), motive j u h1 → motive i v (.comes h1 h2 h3 h4)) {i v : Nat} (t : Lit s i v) : motive i v t := by
  obtain ⟨n, h⟩ := t
  induction n generalizing i v with
  | zero => exact own h
  | succ n ih =>
    rcases h with h | ⟨j, u, h1, h2, h3, h4⟩
    · exact own h
    · exact comes ⟨n, h1⟩ h2 h3 h4 (ih h1)

theorem Lit.less {s : Sys} {i u v : Nat} (h : Lit s i u) (hv : v ≤ u) : Lit s i v := by
  cases h using Lit.ind with
  | own h => exact .own (Nat.le_trans hv h)
  | comes h1 h2 h3 h4 _ => exact .comes h1 h2 h3 (by omega)
theorem Lit.le {s : Sys} {i v : Nat} (h : Lit s i v) : v ≤ 15 := by
  induction h using Lit.ind with
  | own h => exact Nat.le_trans h (s.src_le _)
  | comes _ _ _ h4 ih => omega
/-- A cell's light is its own, or comes from a cell that touches it. -/
theorem lit_iff {s : Sys} {i v : Nat} : Lit s i v ↔ v ≤ s.src i ∨ (s.pass i = true ∧ ∃ j, s.adj j i ∧ Lit s j (v + s.loss i)) := by
  constructor
  · intro h
    cases h using Lit.ind with
    | own h => exact .inl h
    | comes h1 h2 h3 h4 _ => exact .inr ⟨h3, _, h2, h1.less h4⟩
  · rintro (h | ⟨h1, j, h2, h3⟩)
    · exact .own h
    · exact .comes h3 h2 h1 (Nat.le_refl _)
/-- Where no light comes in there is only what shines of its own. -/
theorem lit_shut {s : Sys} {i v : Nat} (hp : s.pass i = false) : Lit s i v ↔ v ≤ s.src i := by
  rw [lit_iff, hp]
  simp
/-- A field of levels that tells the light of each cell. -/
def Told (s : Sys) (l : Nat → Nat) : Prop := ∀ i, i < s.n → ∀ v, Lit s i v ↔ v ≤ l i
theorem Told.same {s : Sys} {l l' : Nat → Nat} (h : Told s l) (h' : Told s l') {i : Nat} (hi : i < s.n) : l i = l' i :=
  Nat.le_antisymm ((h' i hi _).1 ((h i hi _).2 (Nat.le_refl _))) ((h i hi _).1 ((h' i hi _).2 (Nat.le_refl _)))
theorem Told.le {s : Sys} {l : Nat → Nat} (h : Told s l) {i : Nat} (hi : i < s.n) : l i ≤ 15 := ((h i hi _).2 (Nat.le_refl _)).le
theorem Told.shut {s : Sys} {l : Nat → Nat} (h : Told s l) {i : Nat} (hi : i < s.n) (hp : s.pass i = false) : l i = s.src i :=
  Nat.le_antisymm ((lit_shut hp).1 ((h i hi _).2 (Nat.le_refl _))) ((h i hi _).1 (.own (Nat.le_refl _)))
/-- What is sound and closed tells the light. -/
theorem told_of {s : Sys} {l : Nat → Nat} (h1 : ∀ i, i < s.n → Lit s i (l i)) (h2 : ∀ i, s.src i ≤ l i) (h3 : ∀ j i, s.adj j i → s.pass i = true → l j - s.loss i ≤ l i) : Told s l := fun i hi v => by
  constructor
  · intro h
    clear hi
    induction h using Lit.ind with
    | own h => exact Nat.le_trans h (h2 _)
    | comes _ ha hp hu ih =>
      have := h3 _ _ ha hp
      omega
  · exact fun h => (h1 i hi).less h
/-! ### more light -/
/-- One system lies below another one. -/
theorem Lit.mono {s t : Sys} (h1 : ∀ i, s.src i ≤ t.src i) (h2 : ∀ i, s.pass i = true → t.pass i = true ∧ t.loss i ≤ s.loss i) (h3 : ∀ i j, s.adj i j → t.adj i j) {i v : Nat} (h : Lit s i v) : Lit t i v := by
  induction h using Lit.ind with
  | own h => exact .own (Nat.le_trans h (h1 _))
  | comes _ ha hp hu ih =>
    obtain ⟨p, q⟩ := h2 _ hp
    exact .comes ih (h3 _ _ ha) p (by omega)
/-- Cells that are turned about. -/
theorem Lit.turned {s t : Sys} (f : Nat → Nat) (h1 : ∀ i, s.src i = t.src (f i)) (h2 : ∀ i, s.pass i = t.pass (f i)) (h3 : ∀ i, s.loss i = t.loss (f i)) (h4 : ∀ i j, s.adj i j → t.adj (f i) (f j)) {i v : Nat} (h : Lit s i v) : Lit t (f i) v := by
  induction h using Lit.ind with
  | own h => exact .own (by rw [← h1]; exact h)
  | comes _ ha hp hu ih => exact .comes ih (h4 _ _ ha) (by rw [← h2]; exact hp) (by rw [← h3]; exact hu)
/-- A cell that shines anew: no light elsewhere is more than before, but what it makes itself. d: how far a cell is from it. -/
theorem Lit.added {s t : Sys} {c e : Nat} (d : Nat → Nat) (hc : d c = 0) (hd : ∀ i j, t.adj i j → d j ≤ d i + 1) (he : ∀ i v, i = c → Lit t i v → v ≤ e)
    (h1 : ∀ i, i ≠ c → t.src i = s.src i) (h2 : ∀ i, i ≠ c → t.pass i = s.pass i) (h3 : ∀ i, i ≠ c → t.loss i = s.loss i) (h4 : ∀ i j, t.adj i j → s.adj i j) {i v : Nat} (h : Lit t i v) : Lit s i v ∨ v + d i ≤ e := by
  induction h using Lit.ind with
  | @own i v h =>
    by_cases hi : i = c
    · right
      rw [hi, hc]
      exact he i v hi (.own h)
    · exact .inl (.own (by rw [← h1 i hi]; exact h))
  | @comes j i u v hj ha hp hu ih =>
    by_cases hi : i = c
    · right
      rw [hi, hc]
      exact he i v hi (.comes hj ha hp hu)
    · rcases ih with ih | ih
      · exact .inl (.comes ih (h4 _ _ ha) (by rw [← h2 i hi]; exact hp) (by rw [← h3 i hi]; exact hu))
      · right
        have := hd _ _ ha
        have := t.loss_pos i hp
        omega
/-- The other way round: what was lit is lit still, but for the cell itself, whose own light is at least what it had. -/
theorem Lit.kept {s t : Sys} {c : Nat} (hs : ∀ v, Lit s c v → v ≤ t.src c) (h1 : ∀ i, i ≠ c → t.src i = s.src i) (h2 : ∀ i, i ≠ c → t.pass i = s.pass i) (h3 : ∀ i, i ≠ c → t.loss i = s.loss i) (h4 : ∀ i j, s.adj i j → t.adj i j) {i v : Nat} (h : Lit s i v) : Lit t i v := by
  induction h using Lit.ind with
  | @own i v h =>
    by_cases hi : i = c
    · subst hi; exact .own (hs v (.own h))
    · exact .own (by rw [h1 i hi]; exact h)
  | @comes j i u v hj ha hp hu ih =>
    by_cases hi : i = c
    · subst hi; exact .own (hs v (.comes hj ha hp hu))
    · exact .comes ih (h4 _ _ ha) (by rw [h2 i hi]; exact hp) (by rw [h3 i hi]; exact hu)
/-! ### cells that wait by their level -/
/-- A cell's light has gone on to all that it touches. -/
def Done (s : Sys) (l : Nat → Nat) (m : Nat) : Prop := ∀ i, s.adj m i → s.pass i = true → l m - s.loss i ≤ l i
def upd (l : Nat → Nat) (n v : Nat) : Nat → Nat := fun i => if i = n then v else l i
theorem upd_same (l : Nat → Nat) (n v : Nat) : upd l n v n = v := if_pos rfl
theorem upd_other {l : Nat → Nat} {n v i : Nat} (h : i ≠ n) : upd l n v i = l i := if_neg h
theorem upd_le {l : Nat → Nat} {n v : Nat} (h : l n ≤ v) (i : Nat) : l i ≤ upd l n v i := by
  unfold upd
  split
  · rename_i e; rw [e]; exact h
  · exact Nat.le_refl _
/-- Where the spreading stands: levels above have gone on, and so have the first k cells of this one's list. -/
structure Bk (s : Sys) (l : Nat → Nat) (wait : Nat → List Nat) (level k : Nat) : Prop where
  sound : ∀ i, Lit s i (l i)
  low : ∀ i, s.src i ≤ l i
  todo : ∀ i, i < s.n → 2 ≤ l i → Done s l i ∨ (l i < level ∧ i ∈ wait (l i)) ∨ (l i = level ∧ i ∈ (wait level).drop k)
  ids : ∀ v, ∀ i ∈ wait v, i < s.n
theorem Bk.start {s : Sys} {l : Nat → Nat} {wait : Nat → List Nat} (h : ∀ i, l i = s.src i) (hw : ∀ i, i < s.n → i ∈ wait (l i)) (hi : ∀ v, ∀ i ∈ wait v, i < s.n) : Bk s l wait 15 0 where
  sound i := .own (Nat.le_of_eq (h i))
  low i := Nat.le_of_eq (h i).symm
  ids := hi
  todo i hi h2 := by
    have h15 := s.src_le i
    rw [← h] at h15
    rcases Nat.lt_or_ge (l i) 15 with h3 | h3
    · exact .inr (.inl ⟨h3, hw i hi⟩)
    · have e : l i = 15 := by omega
      refine .inr (.inr ⟨e, ?_⟩)
      rw [List.drop_zero, ← e]
      exact hw i hi
/-- One cell's light goes on in one way. -/
theorem Bk.raise {s : Sys} {l : Nat → Nat} {wait : Nat → List Nat} {level k m n v : Nat} (h : Bk s l wait level k) (hm : l m = level) (ha : s.adj m n) (hp : s.pass n = true) (hv : v + s.loss n = level) (hl : l n < v) :
    Bk s (upd l n v) (fun u => if u = v then wait v ++ [n] else wait u) level k := by
  have h1 := s.loss_pos n hp
  have hup : ∀ i, l i ≤ upd l n v i := upd_le (Nat.le_of_lt hl)
  refine ⟨fun i => ?_, fun i => Nat.le_trans (h.low i) (hup i), fun i hi h2 => ?_, fun u i hi => ?_⟩
  · by_cases e : i = n
    · subst e
      rw [upd_same]
      exact .comes (h.sound m) ha hp (by omega)
    · rw [upd_other e]; exact h.sound i
  · by_cases e : i = n
    · subst e
      rw [upd_same] at h2 ⊢
      exact .inr (.inl ⟨by omega, by rw [if_pos rfl]; exact List.mem_append_right _ List.mem_cons_self⟩)
    · rw [upd_other e] at h2 ⊢
      rcases h.todo i hi h2 with h3 | ⟨h3, h4⟩ | ⟨h3, h4⟩
      · left
        intro j hj hpj
        rw [upd_other e]
        exact Nat.le_trans (h3 j hj hpj) (hup j)
      · refine .inr (.inl ⟨h3, ?_⟩)
        by_cases e2 : l i = v
        · rw [if_pos e2]; rw [e2] at h4; exact List.mem_append_left _ h4
        · rw [if_neg e2]; exact h4
      · refine .inr (.inr ⟨h3, ?_⟩)
        rw [if_neg (by omega)]
        exact h4
  · have hn : n < s.n := s.adj_lt _ _ ha
    by_cases e : u = v
    · rw [if_pos e] at hi
      rcases List.mem_append.1 hi with hi | hi
      · exact h.ids _ _ hi
      · rw [List.mem_singleton.1 hi]; exact hn
    · rw [if_neg e] at hi; exact h.ids _ _ hi
/-- A cell of the list is done with. -/
theorem Bk.next {s : Sys} {l : Nat → Nat} {wait : Nat → List Nat} {level k m : Nat} (h : Bk s l wait level k) (hk : (wait level)[k]? = some m) (hd : l m = level → Done s l m) : Bk s l wait level (k + 1) := by
  refine ⟨h.sound, h.low, fun i hi h2 => ?_, h.ids⟩
  rcases h.todo i hi h2 with h3 | h3 | ⟨h3, h4⟩
  · exact .inl h3
  · exact .inr (.inl h3)
  · obtain ⟨hlt, he⟩ := List.getElem?_eq_some_iff.1 hk
    rw [List.drop_eq_getElem_cons hlt, he] at h4
    rcases List.mem_cons.1 h4 with e | h4
    · exact .inl (by rw [e]; exact hd (by rw [← e]; exact h3))
    · exact .inr (.inr ⟨h3, h4⟩)
/-- A list is done with. -/
theorem Bk.down {s : Sys} {l : Nat → Nat} {wait : Nat → List Nat} {level k : Nat} (h : Bk s l wait (level + 1) k) (hk : (wait (level + 1)).length ≤ k) : Bk s l wait level 0 := by
  refine ⟨h.sound, h.low, fun i hi h2 => ?_, h.ids⟩
  rcases h.todo i hi h2 with h3 | ⟨h3, h4⟩ | ⟨h3, h4⟩
  · exact .inl h3
  · rcases Nat.lt_or_ge (l i) level with h5 | h5
    · exact .inr (.inl ⟨h5, h4⟩)
    · have e : l i = level := by omega
      rw [e] at h4
      exact .inr (.inr ⟨e, by rw [List.drop_zero]; exact h4⟩)
  · rw [List.drop_eq_nil_of_le hk] at h4
    cases h4
/-- All lists are done with. -/
theorem Bk.told {s : Sys} {l : Nat → Nat} {wait : Nat → List Nat} (h : Bk s l wait 1 0) (hlt : ∀ j i, s.adj j i → j < s.n) : Told s l := by
  refine told_of (fun i _ => h.sound i) h.low fun j i ha hp => ?_
  rcases Nat.lt_or_ge (l j) 2 with h2 | h2
  · have := s.loss_pos i hp
    omega
  · rcases h.todo j (hlt _ _ ha) h2 with h3 | ⟨h3, _⟩ | ⟨h3, _⟩
    · exact h3 i ha hp
    · omega
    · omega
end
section
/-! ### neighbours in a box -/
/-- The neighbour of a cell in one of six ways. -/
def nbr (W D T i w : Nat) : Option Nat :=
  if w = 0 then (if 0 < i % W then some (i - 1) else none)
  else if w = 1 then (if i % W + 1 < W then some (i + 1) else none)
  else if w = 2 then (if 0 < i / W % D then some (i - W) else none)
  else if w = 3 then (if i / W % D + 1 < D then some (i + W) else none)
  else if w = 4 then (if 0 < i / W / D then some (i - W * D) else none)
  else if w = 5 then (if i / W / D + 1 < T then some (i + W * D) else none)
  else none
/-- Three digits of a cell's number. -/
theorem digits (W D i : Nat) (hW : 0 < W) (hD : 0 < D) : ∃ x z y, i % W = x ∧ i / W % D = z ∧ i / W / D = y ∧ i = (y * D + z) * W + x ∧ x < W ∧ z < D := by
  refine ⟨_, _, _, rfl, rfl, rfl, ?_, Nat.mod_lt _ hW, Nat.mod_lt _ hD⟩
  have h1 := Nat.div_add_mod i W
  have h2 := Nat.div_add_mod (i / W) D
  rw [Nat.mul_comm (i / W / D) D, h2, Nat.mul_comm, h1]
theorem made {W D x z y : Nat} (hx : x < W) (hz : z < D) : ((y * D + z) * W + x) % W = x ∧ ((y * D + z) * W + x) / W = y * D + z ∧ (y * D + z) % D = z ∧ (y * D + z) / D = y := by
  have hW : 0 < W := by omega
  have hD : 0 < D := by omega
  refine ⟨?_, ?_, ?_, ?_⟩
  · rw [Nat.mul_comm, Nat.mul_add_mod, Nat.mod_eq_of_lt hx]
  · rw [Nat.mul_comm, Nat.mul_add_div hW, Nat.div_eq_of_lt hx, Nat.add_zero]
  · rw [Nat.mul_comm, Nat.mul_add_mod, Nat.mod_eq_of_lt hz]
  · rw [Nat.mul_comm, Nat.mul_add_div hD, Nat.div_eq_of_lt hz, Nat.add_zero]
theorem place_lt {W D T x z y : Nat} (hx : x < W) (hz : z < D) (hy : y < T) : (y * D + z) * W + x < W * D * T := by
  have h1 : y * D + z + 1 ≤ T * D := by
    have : (y + 1) * D ≤ T * D := Nat.mul_le_mul_right D hy
    rw [Nat.add_mul, Nat.one_mul] at this
    omega
  have h2 : (y * D + z + 1) * W ≤ T * D * W := Nat.mul_le_mul_right W h1
  rw [Nat.add_mul, Nat.one_mul] at h2
  have h3 : T * D * W = W * D * T := by rw [Nat.mul_comm (T * D) W, Nat.mul_comm T D, Nat.mul_assoc]
  omega
theorem row_lt {W D T i : Nat} (h : i < W * D * T) : i / W / D < T := by
  rw [Nat.div_div_eq_div_mul]
  exact Nat.div_lt_of_lt_mul h
theorem down_row (y z D W x : Nat) (hz : 0 < z) : (y * D + z) * W + x - W = (y * D + (z - 1)) * W + x := by
  obtain ⟨z, rfl⟩ : ∃ k, z = k + 1 := ⟨z - 1, by omega⟩
  rw [show y * D + (z + 1) = (y * D + z) + 1 by omega, Nat.add_mul, Nat.one_mul, Nat.add_sub_cancel]
  omega
theorem up_row (y z D W x : Nat) : (y * D + z) * W + x + W = (y * D + (z + 1)) * W + x := by
  rw [show y * D + (z + 1) = (y * D + z) + 1 by omega, Nat.add_mul (y * D + z) 1, Nat.one_mul]
  omega
theorem up_layer (y z D W x : Nat) : (y * D + z) * W + x + W * D = ((y + 1) * D + z) * W + x := by
  rw [show (y + 1) * D + z = (y * D + z) + D by rw [Nat.add_mul]; omega, Nat.add_mul (y * D + z) D, Nat.mul_comm D W]
  omega
theorem down_layer (y z D W x : Nat) (hy : 0 < y) : (y * D + z) * W + x - W * D = ((y - 1) * D + z) * W + x := by
  obtain ⟨y, rfl⟩ : ∃ k, y = k + 1 := ⟨y - 1, by omega⟩
  rw [← up_layer y z D W x, Nat.add_sub_cancel]
  rfl
/-- A neighbour by its digits: one of them is one more or one less. -/
theorem nbr_digits {W D T i w j : Nat} (hW : 0 < W) (hD : 0 < D) (hi : i < W * D * T) (h : nbr W D T i w = some j) :
    ∃ x z y x' z' y', i = (y * D + z) * W + x ∧ j = (y' * D + z') * W + x' ∧ (x < W ∧ z < D ∧ y < T) ∧ (x' < W ∧ z' < D ∧ y' < T) ∧
      ((w = 0 ∧ x' + 1 = x ∧ z' = z ∧ y' = y) ∨ (w = 1 ∧ x' = x + 1 ∧ z' = z ∧ y' = y) ∨ (w = 2 ∧ x' = x ∧ z' + 1 = z ∧ y' = y) ∨ (w = 3 ∧ x' = x ∧ z' = z + 1 ∧ y' = y) ∨ (w = 4 ∧ x' = x ∧ z' = z ∧ y' + 1 = y) ∨ (w = 5 ∧ x' = x ∧ z' = z ∧ y' = y + 1)) := by
  obtain ⟨x, z, y, e1, e2, e3, e4, hx, hz⟩ := digits W D i hW hD
  have hy : y < T := by rw [← e3]; exact row_lt hi
  unfold nbr at h
  rw [e1, e2, e3] at h
  split at h
  · split at h
    · cases h
      exact ⟨x, z, y, x - 1, z, y, e4, by omega, ⟨hx, hz, hy⟩, ⟨by omega, hz, hy⟩, .inl ⟨by assumption, by omega, rfl, rfl⟩⟩
    · cases h
  split at h
  · split at h
    · cases h
      exact ⟨x, z, y, x + 1, z, y, e4, by omega, ⟨hx, hz, hy⟩, ⟨by omega, hz, hy⟩, .inr (.inl ⟨by assumption, rfl, rfl, rfl⟩)⟩
    · cases h
  split at h
  · split at h
    · cases h
      exact ⟨x, z, y, x, z - 1, y, e4, by rw [e4]; exact down_row y z D W x (by assumption), ⟨hx, hz, hy⟩, ⟨hx, by omega, hy⟩, .inr (.inr (.inl ⟨by assumption, rfl, by omega, rfl⟩))⟩
    · cases h
  split at h
  · split at h
    · cases h
      exact ⟨x, z, y, x, z + 1, y, e4, by rw [e4]; exact up_row y z D W x, ⟨hx, hz, hy⟩, ⟨hx, by omega, hy⟩, .inr (.inr (.inr (.inl ⟨by assumption, rfl, rfl, rfl⟩)))⟩
    · cases h
  split at h
  · split at h
    · cases h
      exact ⟨x, z, y, x, z, y - 1, e4, by rw [e4]; exact down_layer y z D W x (by assumption), ⟨hx, hz, hy⟩, ⟨hx, hz, by omega⟩, .inr (.inr (.inr (.inr (.inl ⟨by assumption, rfl, rfl, by omega⟩))))⟩
    · cases h
  split at h
  · split at h
    · cases h
      exact ⟨x, z, y, x, z, y + 1, e4, by rw [e4]; exact up_layer y z D W x, ⟨hx, hz, hy⟩, ⟨hx, hz, by omega⟩, .inr (.inr (.inr (.inr (.inr ⟨by assumption, rfl, rfl, rfl⟩))))⟩
    · cases h
  cases h
theorem nbr_lt {W D T i w j : Nat} (hW : 0 < W) (hD : 0 < D) (hi : i < W * D * T) (h : nbr W D T i w = some j) : j < W * D * T := by
  obtain ⟨x, z, y, x', z', y', _, rfl, _, ⟨h1, h2, h3⟩, _⟩ := nbr_digits hW hD hi h
  exact place_lt h1 h2 h3
/-- The neighbours of a cell that is told by its digits. -/
theorem nbr_of {W D T x z y : Nat} (hx : x < W) (hz : z < D) (w : Nat) : nbr W D T ((y * D + z) * W + x) w =
    (if w = 0 then (if 0 < x then some ((y * D + z) * W + (x - 1)) else none)
     else if w = 1 then (if x + 1 < W then some ((y * D + z) * W + (x + 1)) else none)
     else if w = 2 then (if 0 < z then some ((y * D + (z - 1)) * W + x) else none)
     else if w = 3 then (if z + 1 < D then some ((y * D + (z + 1)) * W + x) else none)
     else if w = 4 then (if 0 < y then some (((y - 1) * D + z) * W + x) else none)
     else if w = 5 then (if y + 1 < T then some (((y + 1) * D + z) * W + x) else none) else none) := by
  obtain ⟨m1, m2, m3, m4⟩ := made (y := y) hx hz
  unfold nbr
  rw [m1, m2, m3, m4]
  by_cases h0 : w = 0
  · rw [if_pos h0, if_pos h0]
    by_cases h : 0 < x
    · rw [if_pos h, if_pos h]; congr 1; omega
    · rw [if_neg h, if_neg h]
  rw [if_neg h0, if_neg h0]
  by_cases h1 : w = 1
  · rw [if_pos h1, if_pos h1]; rfl
  rw [if_neg h1, if_neg h1]
  by_cases h2 : w = 2
  · rw [if_pos h2, if_pos h2]
    by_cases h : 0 < z
    · rw [if_pos h, if_pos h, down_row y z D W x h]
    · rw [if_neg h, if_neg h]
  rw [if_neg h2, if_neg h2]
  by_cases h3 : w = 3
  · rw [if_pos h3, if_pos h3, up_row]
  rw [if_neg h3, if_neg h3]
  by_cases h4 : w = 4
  · rw [if_pos h4, if_pos h4]
    by_cases h : 0 < y
    · rw [if_pos h, if_pos h, down_layer y z D W x h]
    · rw [if_neg h, if_neg h]
  rw [if_neg h4, if_neg h4]
  by_cases h5 : w = 5
  · rw [if_pos h5, if_pos h5, up_layer]
  rw [if_neg h5, if_neg h5]
/-- Whoever has a neighbour is that one's neighbour. -/
theorem nbr_symm {W D T i w j : Nat} (hW : 0 < W) (hD : 0 < D) (hi : i < W * D * T) (h : nbr W D T i w = some j) : ∃ v, v < 6 ∧ nbr W D T j v = some i := by
  obtain ⟨x, z, y, x', z', y', rfl, rfl, ⟨h1, h2, h3⟩, ⟨k1, k2, k3⟩, c⟩ := nbr_digits hW hD hi h
  rcases c with ⟨_, e1, e2, e3⟩ | ⟨_, e1, e2, e3⟩ | ⟨_, e1, e2, e3⟩ | ⟨_, e1, e2, e3⟩ | ⟨_, e1, e2, e3⟩ | ⟨_, e1, e2, e3⟩
  · refine ⟨1, by omega, ?_⟩
    subst e1; subst e2; subst e3
    rw [nbr_of k1 k2]
    simp [h1]
  · refine ⟨0, by omega, ?_⟩
    subst e1; subst e2; subst e3
    rw [nbr_of k1 k2]
    simp
  · refine ⟨3, by omega, ?_⟩
    subst e1; subst e2; subst e3
    rw [nbr_of k1 k2]
    simp [h2]
  · refine ⟨2, by omega, ?_⟩
    subst e1; subst e2; subst e3
    rw [nbr_of k1 k2]
    simp
  · refine ⟨5, by omega, ?_⟩
    subst e1; subst e2; subst e3
    rw [nbr_of k1 k2]
    simp [h3]
  · refine ⟨4, by omega, ?_⟩
    subst e1; subst e2; subst e3
    rw [nbr_of k1 k2]
    simp
/-- The greatest of what a cell's neighbours have, by the first k ways. -/
def best (W D T : Nat) (l : Nat → Nat) (i : Nat) : Nat → Nat
  | 0 => 0
  | k + 1 => max (best W D T l i k) (match nbr W D T i k with
    | some j => l j
    | none => 0)
theorem best_ge {W D T : Nat} {l : Nat → Nat} {i w j : Nat} (h : nbr W D T i w = some j) : ∀ k, w < k → l j ≤ best W D T l i k
  | 0, hw => by omega
  | k + 1, hw => by
    unfold best
    by_cases e : w = k
    · subst e
      rw [h]
      exact Nat.le_max_right _ _
    · exact Nat.le_trans (best_ge h k (by omega)) (Nat.le_max_left _ _)
theorem best_some {W D T : Nat} {l : Nat → Nat} {i : Nat} : ∀ k, best W D T l i k = 0 ∨ ∃ w j, w < k ∧ nbr W D T i w = some j ∧ best W D T l i k = l j
  | 0 => .inl rfl
  | k + 1 => by
    unfold best
    rcases best_some (W := W) (D := D) (T := T) (l := l) (i := i) k with h | ⟨w, j, hw, hn, h⟩
    · rw [h]
      cases hn : nbr W D T i k with
      | none => exact .inl rfl
      | some j => exact .inr ⟨k, j, by omega, hn, by simp⟩
    · rcases Nat.le_total (best W D T l i k) (match nbr W D T i k with | some j => l j | none => 0) with h1 | h1
      · rw [Nat.max_eq_right h1]
        cases hk : nbr W D T i k with
        | none => exact .inl rfl
        | some q => exact .inr ⟨k, q, by omega, hk, rfl⟩
      · rw [Nat.max_eq_left h1]
        exact .inr ⟨w, j, by omega, hn, h⟩
/-! ### kinds -/
def lossK (k : Int) : Nat := if k < 0 ∨ 15 < k then 0 else if k = 0 ∨ k = 13 ∨ k = 14 then 1 else if k = 5 then 3 else if k = 11 then 2 else 16
def clearK (k : Int) : Bool := decide (k = 0 ∨ k = 14)
def emitsK (k : Int) : Nat := if k = 13 then 14 else if k = 9 then 3 else 0
/-- Does light come in? -/
def passK (k : Int) : Bool := decide (k = 0 ∨ k = 5 ∨ k = 11 ∨ k = 13 ∨ k = 14)
theorem pass_loss {k : Int} (h : passK k = true) : 1 ≤ lossK k ∧ lossK k ≤ 3 := by
  unfold passK at h
  simp only [decide_eq_true_eq] at h
  rcases h with rfl | rfl | rfl | rfl | rfl <;> decide
theorem emits_le (k : Int) : emitsK k ≤ 15 := by unfold emitsK; split <;> (try split) <;> omega
theorem clear_pass {k : Int} (h : clearK k = true) : passK k = true := by
  unfold clearK at h
  simp only [decide_eq_true_eq] at h
  rcases h with rfl | rfl <;> rfl
/-! ### systems of a box -/
section
variable (W D T : Nat) (K : Nat → Int)
/-- A box of cells with what shines. -/
def fsys (src : Nat → Nat) (hs : ∀ i, src i ≤ 15) (hW : 0 < W) (hD : 0 < D) : Sys where
  n := W * D * T
  src := src
  pass i := passK (K i)
  loss i := lossK (K i)
  adj i j := i < W * D * T ∧ ∃ w, w < 6 ∧ nbr W D T i w = some j
  loss_pos _ h := (pass_loss h).1
  src_le := hs
  adj_lt _ _ h := by
    obtain ⟨hi, w, _, hw⟩ := h
    exact nbr_lt hW hD hi hw
/-- A cell and all cells above it in its column are clear. -/
def openN (i : Nat) : Bool := (List.range (T - i / W / D)).all fun t => clearK (K (i + t * (W * D)))
def skyN (i : Nat) : Nat := if i < W * D * T ∧ openN W D T K i = true then 15 else 0
theorem skyN_le (i : Nat) : skyN W D T K i ≤ 15 := by unfold skyN; split <;> omega
def lampN (i : Nat) : Nat := if i < W * D * T then emitsK (K i) else 0
theorem lampN_le (i : Nat) : lampN W D T K i ≤ 15 := by
  unfold lampN
  split
  · exact emits_le _
  · omega
def skyS (hW : 0 < W) (hD : 0 < D) : Sys := fsys W D T K (skyN W D T K) (skyN_le W D T K) hW hD
def lampS (hW : 0 < W) (hD : 0 < D) : Sys := fsys W D T K (lampN W D T K) (lampN_le W D T K) hW hD
end
/-- A cell's light is what its neighbours' and its own kind make it. -/
theorem told_eq {W D T : Nat} {K : Nat → Int} {src : Nat → Nat} {hs : ∀ i, src i ≤ 15} {hW : 0 < W} {hD : 0 < D} {l : Nat → Nat} (h : Told (fsys W D T K src hs hW hD) l) {i : Nat} (hi : i < W * D * T) :
    l i = if passK (K i) = true then max (src i) (best W D T l i 6 - lossK (K i)) else src i := by
  by_cases hp : passK (K i) = true
  case neg =>
    rw [if_neg hp]
    have hp' : passK (K i) = false := by simpa using hp
    exact h.shut hi hp'
  rw [if_pos hp]
  refine Nat.le_antisymm ?_ (Nat.max_le.2 ⟨(h i hi _).1 (.own (Nat.le_refl _)), ?_⟩)
  · rcases lit_iff.1 ((h i hi (l i)).2 (Nat.le_refl _)) with h1 | ⟨_, j, ⟨hj, w, hw, hn⟩, h2⟩
    · exact Nat.le_trans h1 (Nat.le_max_left _ _)
    · obtain ⟨v, hv, hv2⟩ := nbr_symm hW hD hj hn
      have h3 : l i + lossK (K i) ≤ l j := (h j hj _).1 h2
      have h4 := best_ge (l := l) hv2 6 hv
      exact Nat.le_trans (by omega) (Nat.le_max_right _ _)
  · rcases best_some (W := W) (D := D) (T := T) (l := l) (i := i) 6 with h1 | ⟨w, j, hw, hn, h1⟩
    · rw [h1]; omega
    · have hj : j < W * D * T := nbr_lt hW hD hi hn
      obtain ⟨v, hv, hv2⟩ := nbr_symm hW hD hi hn
      rw [h1]
      rcases Nat.lt_or_ge (l j) (lossK (K i)) with h2 | h2
      · omega
      · refine (h i hi _).1 (.comes ((h j hj (l j)).2 (Nat.le_refl _)) ⟨hj, v, hv, hv2⟩ hp ?_)
        show l j - lossK (K i) + lossK (K i) ≤ l j
        omega
end
section
/-- The kind of a cell of nine chunks side by side. -/
def kAt (css : List (List Int)) (i : Nat) : Int := (css.getD (i / 48 % 48 / 16 * 3 + i % 48 / 16) []).getD (i / 48 / 48 * 256 + i / 48 % 48 % 16 * 16 + i % 48 % 16) 0
/-- A cell of the middle chunk among the nine chunks'. -/
def mid (i : Nat) : Nat := (i / 256 * 48 + (16 + i / 16 % 16)) * 48 + (16 + i % 16)
theorem mid_of {x z y : Nat} (hx : x < 16) (hz : z < 16) : mid ((y * 16 + z) * 16 + x) = (y * 48 + (16 + z)) * 48 + (16 + x) := by
  unfold mid
  have h1 : ((y * 16 + z) * 16 + x) / 256 = y := by omega
  have h2 : ((y * 16 + z) * 16 + x) / 16 % 16 = z := by omega
  have h3 : ((y * 16 + z) * 16 + x) % 16 = x := by omega
  rw [h1, h2, h3]
theorem digits16 (i : Nat) : ∃ x z y, i = (y * 16 + z) * 16 + x ∧ i % 16 = x ∧ i / 16 % 16 = z ∧ i / 256 = y ∧ x < 16 ∧ z < 16 := ⟨i % 16, i / 16 % 16, i / 256, by omega, rfl, rfl, rfl, by omega, by omega⟩
theorem mid_lt {i : Nat} (h : i < 32768) : mid i < 48 * 48 * 128 := by unfold mid; omega
theorem kAt_of (css : List (List Int)) {x z y : Nat} (hx : x < 48) (hz : z < 48) : kAt css ((y * 48 + z) * 48 + x) = (css.getD (z / 16 * 3 + x / 16) []).getD (y * 256 + z % 16 * 16 + x % 16) 0 := by
  obtain ⟨m1, m2, m3, m4⟩ := made (y := y) hx hz
  unfold kAt
  rw [m1, m2, m3, m4]
theorem kAt_mid (css : List (List Int)) (i : Nat) : kAt css (mid i) = (css.getD 4 []).getD i 0 := by
  obtain ⟨x, z, y, e, _, _, _, hx, hz⟩ := digits16 i
  rw [e, mid_of hx hz, kAt_of css (by omega) (by omega), show (16 + z) / 16 * 3 + (16 + x) / 16 = 4 by omega, show y * 256 + (16 + z) % 16 * 16 + (16 + x) % 16 = (y * 16 + z) * 16 + x by omega]
/-- Neighbours within the chunk are neighbours among the nine. -/
theorem mid_nbr {i : Nat} (hx0 : 0 < i % 16) (hx1 : i % 16 < 15) (hz0 : 0 < i / 16 % 16) (hz1 : i / 16 % 16 < 15) (w : Nat) : nbr 48 48 128 (mid i) w = (nbr 16 16 128 i w).map mid := by
  obtain ⟨x, z, y, e, e1, e2, e3, hx, hz⟩ := digits16 i
  rw [e1] at hx0 hx1
  rw [e2] at hz0 hz1
  rw [e, mid_of hx hz, nbr_of (by omega) (by omega), nbr_of hx hz]
  by_cases h0 : w = 0
  · rw [if_pos h0, if_pos h0, if_pos (by omega), if_pos hx0, Option.map_some, mid_of (by omega) hz, show 16 + x - 1 = 16 + (x - 1) by omega]
  rw [if_neg h0, if_neg h0]
  by_cases h1 : w = 1
  · rw [if_pos h1, if_pos h1, if_pos (by omega), if_pos (by omega), Option.map_some, mid_of (by omega) hz, show 16 + x + 1 = 16 + (x + 1) by omega]
  rw [if_neg h1, if_neg h1]
  by_cases h2 : w = 2
  · rw [if_pos h2, if_pos h2, if_pos (by omega), if_pos hz0, Option.map_some, mid_of hx (by omega), show 16 + z - 1 = 16 + (z - 1) by omega]
  rw [if_neg h2, if_neg h2]
  by_cases h3 : w = 3
  · rw [if_pos h3, if_pos h3, if_pos (by omega), if_pos (by omega), Option.map_some, mid_of hx (by omega), show 16 + z + 1 = 16 + (z + 1) by omega]
  rw [if_neg h3, if_neg h3]
  by_cases h4 : w = 4
  · rw [if_pos h4, if_pos h4]
    by_cases hy : 0 < y
    · rw [if_pos hy, if_pos hy, Option.map_some, mid_of hx hz]
    · rw [if_neg hy, if_neg hy]; rfl
  rw [if_neg h4, if_neg h4]
  by_cases h5 : w = 5
  · rw [if_pos h5, if_pos h5]
    by_cases hy : y + 1 < 128
    · rw [if_pos hy, if_pos hy, Option.map_some, mid_of hx hz]
    · rw [if_neg hy, if_neg hy]; rfl
  rw [if_neg h5, if_neg h5]; rfl
theorem best_mid {l : Nat → Nat} {i : Nat} (hx0 : 0 < i % 16) (hx1 : i % 16 < 15) (hz0 : 0 < i / 16 % 16) (hz1 : i / 16 % 16 < 15) : ∀ k, best 48 48 128 l (mid i) k = best 16 16 128 (fun j => l (mid j)) i k
  | 0 => rfl
  | k + 1 => by
    unfold best
    rw [best_mid hx0 hx1 hz0 hz1 k, mid_nbr hx0 hx1 hz0 hz1 k]
    cases nbr 16 16 128 i k <;> rfl
/-- The sky over a cell of the middle chunk is that of the chunk alone. -/
theorem open_mid (css : List (List Int)) (i : Nat) : openN 48 48 128 (kAt css) (mid i) = openN 16 16 128 (fun j => (css.getD 4 []).getD j 0) i := by
  unfold openN
  have e1 : mid i / 48 / 48 = i / 16 / 16 := by unfold mid; omega
  rw [e1]
  congr 1
  funext t
  rw [show mid i + t * (48 * 48) = mid (i + t * (16 * 16)) by unfold mid; omega, kAt_mid]
theorem sky_mid (css : List (List Int)) {i : Nat} (hi : i < 32768) : skyN 48 48 128 (kAt css) (mid i) = skyN 16 16 128 (fun j => (css.getD 4 []).getD j 0) i := by
  unfold skyN
  rw [open_mid css i]
  have h1 : mid i < 48 * 48 * 128 := mid_lt hi
  have h2 : i < 16 * 16 * 128 := by omega
  simp only [h1, h2, true_and]
/-! ### what is told of the middle chunk -/
abbrev skyC (css : List (List Int)) : Sys := skyS 48 48 128 (kAt css) (by omega) (by omega)
abbrev lampC (css : List (List Int)) : Sys := lampS 48 48 128 (kAt css) (by omega) (by omega)
/-- A row of bytes tells the light of the middle chunk's cells. -/
def IsLight (s : Sys) (a : List Int) : Prop := a.length = 32768 ∧ ∃ l, Told s l ∧ ∀ i, i < 32768 → a.getD i 0 = (l (mid i) : Int)
theorem getD_ext {a b : List Int} (hl : a.length = b.length) (h : ∀ i, i < a.length → a.getD i 0 = b.getD i 0) : a = b := by
  refine List.ext_getElem hl fun i h1 h2 => ?_
  have := h i h1
  simpa [List.getD_eq_getElem?_getD, h1, h2] using this
theorem IsLight.same {s : Sys} (hn : s.n = 48 * 48 * 128) {a b : List Int} (ha : IsLight s a) (hb : IsLight s b) : a = b := by
  obtain ⟨h1, l, hl, h2⟩ := ha
  obtain ⟨k1, m, hm, k2⟩ := hb
  refine getD_ext (h1.trans k1.symm) fun i hi => ?_
  rw [h1] at hi
  rw [h2 i hi, k2 i hi, hl.same hm (by rw [hn]; exact mid_lt hi)]
theorem IsLight.bd {s : Sys} (hn : s.n = 48 * 48 * 128) {a : List Int} (ha : IsLight s a) {i : Nat} (hi : i < 32768) : 0 ≤ a.getD i 0 ∧ a.getD i 0 ≤ 15 := by
  obtain ⟨_, l, hl, h2⟩ := ha
  have := hl.le (i := mid i) (by rw [hn]; exact mid_lt hi)
  rw [h2 i hi]
  omega
/-- LightHolds, plainly: the sky's light. -/
theorem holds_sky {css : List (List Int)} {a : List Int} (ha : IsLight (skyC css) a) {i : Nat} (hi : i < 32768) (hx0 : 0 < i % 16) (hx1 : i % 16 < 15) (hz0 : 0 < i / 16 % 16) (hz1 : i / 16 % 16 < 15) :
    a.getD i 0 = if passK ((css.getD 4 []).getD i 0) = true then max (skyN 16 16 128 (fun j => (css.getD 4 []).getD j 0) i : Int) ((best 16 16 128 (fun j => (a.getD j 0).toNat) i 6 - lossK ((css.getD 4 []).getD i 0) : Nat) : Int) else (skyN 16 16 128 (fun j => (css.getD 4 []).getD j 0) i : Int) := by
  obtain ⟨_, l, hl, h2⟩ := ha
  have h3 := told_eq hl (mid_lt hi)
  rw [best_mid hx0 hx1 hz0 hz1, kAt_mid, sky_mid css hi] at h3
  have hb : best 16 16 128 (fun j => l (mid j)) i 6 = best 16 16 128 (fun j => (a.getD j 0).toNat) i 6 := by
    have : ∀ k, best 16 16 128 (fun j => l (mid j)) i k = best 16 16 128 (fun j => (a.getD j 0).toNat) i k := fun k => by
      induction k with
      | zero => rfl
      | succ k ih =>
        unfold best
        rw [ih]
        cases hn : nbr 16 16 128 i k with
        | none => rfl
        | some j =>
          have hj : j < 32768 := nbr_lt (W := 16) (D := 16) (T := 128) (by omega) (by omega) (by omega) hn
          simp only
          rw [h2 j hj]
          rfl
    exact this 6
  rw [hb] at h3
  rw [h2 i hi, h3]
  split
  · generalize skyN 16 16 128 (fun j => (css.getD 4 []).getD j 0) i = A
    generalize best 16 16 128 (fun j => (a.getD j 0).toNat) i 6 - lossK ((css.getD 4 []).getD i 0) = B
    omega
  · rfl
/-- LightHolds, plainly: the lamps' light. -/
theorem holds_lamp {css : List (List Int)} {a : List Int} (ha : IsLight (lampC css) a) {i : Nat} (hi : i < 32768) (hx0 : 0 < i % 16) (hx1 : i % 16 < 15) (hz0 : 0 < i / 16 % 16) (hz1 : i / 16 % 16 < 15) :
    a.getD i 0 = if passK ((css.getD 4 []).getD i 0) = true then max (emitsK ((css.getD 4 []).getD i 0) : Int) ((best 16 16 128 (fun j => (a.getD j 0).toNat) i 6 - lossK ((css.getD 4 []).getD i 0) : Nat) : Int) else (emitsK ((css.getD 4 []).getD i 0) : Int) := by
  obtain ⟨_, l, hl, h2⟩ := ha
  have h3 := told_eq hl (mid_lt hi)
  have h4 : lampN 48 48 128 (kAt css) (mid i) = emitsK ((css.getD 4 []).getD i 0) := by unfold lampN; rw [if_pos (mid_lt hi), kAt_mid]
  rw [best_mid hx0 hx1 hz0 hz1, kAt_mid, h4] at h3
  have hb : ∀ k, best 16 16 128 (fun j => l (mid j)) i k = best 16 16 128 (fun j => (a.getD j 0).toNat) i k := fun k => by
    induction k with
    | zero => rfl
    | succ k ih =>
      unfold best
      rw [ih]
      cases hn : nbr 16 16 128 i k with
      | none => rfl
      | some j =>
        have hj : j < 32768 := nbr_lt (W := 16) (D := 16) (T := 128) (by omega) (by omega) (by omega) hn
        simp only
        rw [h2 j hj]
        rfl
  rw [hb 6] at h3
  rw [h2 i hi, h3]
  split
  · generalize emitsK ((css.getD 4 []).getD i 0) = A
    generalize best 16 16 128 (fun j => (a.getD j 0).toNat) i 6 - lossK ((css.getD 4 []).getD i 0) = B
    omega
  · rfl
/-- LightShuts, plainly. -/
theorem shut_sky {css : List (List Int)} {a : List Int} (ha : IsLight (skyC css) a) {i : Nat} (hi : i < 32768) (hp : passK ((css.getD 4 []).getD i 0) = false) : a.getD i 0 = 0 := by
  obtain ⟨_, l, hl, h2⟩ := ha
  have hp' : passK (kAt css (mid i)) = false := by rw [kAt_mid]; exact hp
  have h3 : l (mid i) = skyN 48 48 128 (kAt css) (mid i) := hl.shut (mid_lt hi) hp'
  have h4 : skyN 48 48 128 (kAt css) (mid i) = 0 := by
    unfold skyN
    rw [if_neg]
    rintro ⟨_, ho⟩
    unfold openN at ho
    have hlt : 0 < 128 - mid i / 48 / 48 := by unfold mid; omega
    have := List.all_eq_true.1 ho 0 (List.mem_range.2 hlt)
    rw [Nat.zero_mul, Nat.add_zero] at this
    rw [clear_pass this] at hp'
    cases hp'
  rw [h2 i hi, h3, h4]
  rfl
theorem shut_lamp {css : List (List Int)} {a : List Int} (ha : IsLight (lampC css) a) {i : Nat} (hi : i < 32768) (hp : passK ((css.getD 4 []).getD i 0) = false) : a.getD i 0 = (emitsK ((css.getD 4 []).getD i 0) : Int) := by
  obtain ⟨_, l, hl, h2⟩ := ha
  have hp' : passK (kAt css (mid i)) = false := by rw [kAt_mid]; exact hp
  have h3 : l (mid i) = lampN 48 48 128 (kAt css) (mid i) := hl.shut (mid_lt hi) hp'
  rw [h2 i hi, h3]
  unfold lampN
  rw [if_pos (mid_lt hi), kAt_mid]
/-- LightOpens, plainly: a system that lies below another one has no more light. -/
theorem less_light {s t : Sys} (hs : s.n = 48 * 48 * 128) (ht : t.n = 48 * 48 * 128) (h : ∀ i v, Lit s i v → Lit t i v) {a b : List Int} (ha : IsLight s a) (hb : IsLight t b) {i : Nat} (hi : i < 32768) : a.getD i 0 ≤ b.getD i 0 := by
  obtain ⟨_, l, hl, h2⟩ := ha
  obtain ⟨_, m, hm, k2⟩ := hb
  rw [h2 i hi, k2 i hi]
  have := (hm (mid i) (by rw [ht]; exact mid_lt hi) _).1 (h _ _ ((hl (mid i) (by rw [hs]; exact mid_lt hi) _).2 (Nat.le_refl _)))
  omega
end
section
/-! ### a cell of the middle chunk becomes another kind -/
def setM (css : List (List Int)) (c : Nat) (v : Int) : List (List Int) := css.set 4 ((css.getD 4 []).set c v)
theorem kAt_set {css : List (List Int)} {c : Nat} {v : Int} (h9 : css.length = 9) (h4 : (css.getD 4 []).length = 32768) (hc : c < 32768) (j : Nat) : kAt (setM css c v) j = if j = mid c then v else kAt css j := by
  by_cases e : j = mid c
  · rw [if_pos e, e, kAt_mid]
    unfold setM
    rw [List.getD_eq_getElem?_getD, List.getD_eq_getElem?_getD, List.getElem?_set_self (by omega)]
    simp only [Option.getD_some]
    rw [List.getElem?_set_self (by rw [h4]; exact hc)]
    rfl
  · rw [if_neg e]
    obtain ⟨x, z, y, _, _, _, e4, hx, hz⟩ := digits 48 48 j (by omega) (by omega)
    rw [e4, kAt_of _ hx hz, kAt_of _ hx hz]
    unfold setM
    by_cases h : z / 16 * 3 + x / 16 = 4
    · rw [h]
      have hne : c ≠ y * 256 + z % 16 * 16 + x % 16 := fun e2 => e (by
        rw [e4, e2]
        unfold mid
        have h1 : z / 16 = 1 := by omega
        have h2 : x / 16 = 1 := by omega
        omega)
      rw [List.getD_eq_getElem?_getD, List.getD_eq_getElem?_getD, List.getElem?_set_self (by omega)]
      simp only [Option.getD_some]
      rw [List.getElem?_set_ne hne]
      simp [List.getD_eq_getElem?_getD]
    · rw [List.getD_eq_getElem?_getD (l := css.set _ _), List.getElem?_set_ne (fun e2 => h e2.symm), ← List.getD_eq_getElem?_getD]
/-- LightOpens: a cell that becomes air. -/
theorem opens {css : List (List Int)} {c : Nat} (h9 : css.length = 9) (h4 : (css.getD 4 []).length = 32768) (hc : c < 32768) (i v : Nat) (h : Lit (skyC css) i v) : Lit (skyC (setM css c 0)) i v := by
  have hk := kAt_set (v := 0) h9 h4 hc
  refine Lit.mono (s := skyC css) (t := skyC (setM css c 0)) (fun j => ?_) (fun j hp => ?_) (fun _ _ h => h) h
  · show skyN 48 48 128 (kAt css) j ≤ skyN 48 48 128 (kAt (setM css c 0)) j
    unfold skyN
    by_cases h1 : j < 48 * 48 * 128 ∧ openN 48 48 128 (kAt css) j = true
    · have h2 : openN 48 48 128 (kAt (setM css c 0)) j = true := by
        unfold openN
        refine List.all_eq_true.2 fun t ht => ?_
        rw [hk]
        split
        · rfl
        · exact List.all_eq_true.1 h1.2 t ht
      rw [if_pos h1, if_pos ⟨h1.1, h2⟩]
      exact Nat.le_refl _
    · rw [if_neg h1]; exact Nat.zero_le _
  · have hp' : passK (kAt css j) = true := hp
    show passK (kAt (setM css c 0) j) = true ∧ lossK (kAt (setM css c 0) j) ≤ lossK (kAt css j)
    rw [hk]
    split
    · exact ⟨rfl, (pass_loss hp').1⟩
    · exact ⟨hp', Nat.le_refl _⟩
/-! ### a lamp more -/
theorem lit_le {s : Sys} {e : Nat} (h : ∀ i, s.src i ≤ e) {i v : Nat} (hl : Lit s i v) : v ≤ e := by
  induction hl using Lit.ind with
  | own h1 => exact Nat.le_trans h1 (h _)
  | comes _ _ _ h4 ih => omega
theorem lamp_le (css : List (List Int)) (i : Nat) : (lampC css).src i ≤ 14 := by
  show lampN 48 48 128 (kAt css) i ≤ 14
  unfold lampN emitsK
  split
  · split <;> (try split) <;> omega
  · omega
def absd (a b : Nat) : Nat := (a - b) + (b - a)
theorem absd_step {a b : Nat} (c : Nat) (h : a + 1 = b ∨ a = b + 1) : absd a c ≤ absd b c + 1 := by unfold absd; omega
theorem absd_shift (a b : Nat) : absd (16 + a) (16 + b) = absd a b := by unfold absd; omega
/-- How far two cells are, in three ways together. -/
def dist (i j : Nat) : Nat := absd (i % 48) (j % 48) + absd (i / 48 % 48) (j / 48 % 48) + absd (i / 48 / 48) (j / 48 / 48)
theorem dist_self (i : Nat) : dist i i = 0 := by unfold dist absd; omega
theorem dist_step {i w j c : Nat} (hi : i < 48 * 48 * 128) (h : nbr 48 48 128 i w = some j) : dist j c ≤ dist i c + 1 := by
  obtain ⟨x, z, y, x', z', y', rfl, rfl, ⟨h1, h2, h3⟩, ⟨k1, k2, k3⟩, q⟩ := nbr_digits (by omega) (by omega) hi h
  obtain ⟨m1, m2, m3, m4⟩ := made (y := y) h1 h2
  obtain ⟨n1, n2, n3, n4⟩ := made (y := y') k1 k2
  unfold dist
  rw [m1, m2, m3, m4, n1, n2, n3, n4]
  clear m1 m2 m3 m4 n1 n2 n3 n4 hi h h1 h2 h3 k1 k2 k3
  generalize c % 48 = a
  generalize c / 48 % 48 = b
  generalize c / 48 / 48 = d
  rcases q with ⟨_, e1, e2, e3⟩ | ⟨_, e1, e2, e3⟩ | ⟨_, e1, e2, e3⟩ | ⟨_, e1, e2, e3⟩ | ⟨_, e1, e2, e3⟩ | ⟨_, e1, e2, e3⟩
  · subst e2; subst e3; have := absd_step (a := x') (b := x) a (.inl e1); omega
  · subst e2; subst e3; have := absd_step (a := x') (b := x) a (.inr e1); omega
  · subst e1; subst e3; have := absd_step (a := z') (b := z) b (.inl e2); omega
  · subst e1; subst e3; have := absd_step (a := z') (b := z) b (.inr e2); omega
  · subst e1; subst e2; have := absd_step (a := y') (b := y) d (.inl e3); omega
  · subst e1; subst e2; have := absd_step (a := y') (b := y) d (.inr e3); omega
theorem adds {css : List (List Int)} {c : Nat} (h9 : css.length = 9) (h4 : (css.getD 4 []).length = 32768) (hc : c < 32768) (ha : (css.getD 4 []).getD c 0 = 0) (i v : Nat) :
    (Lit (lampC css) i v → Lit (lampC (setM css c 13)) i v) ∧ (Lit (lampC (setM css c 13)) i v → Lit (lampC css) i v ∨ v + dist i (mid c) ≤ 14) := by
  have hk := kAt_set (v := 13) h9 h4 hc
  have h0 : kAt css (mid c) = 0 := by rw [kAt_mid]; exact ha
  have hp : ∀ j, passK (kAt (setM css c 13) j) = passK (kAt css j) := fun j => by
    rw [hk]
    split
    · rename_i e; rw [e, h0]; rfl
    · rfl
  have hl : ∀ j, lossK (kAt (setM css c 13) j) = lossK (kAt css j) := fun j => by
    rw [hk]
    split
    · rename_i e; rw [e, h0]; rfl
    · rfl
  have hs : ∀ j, j ≠ mid c → lampN 48 48 128 (kAt (setM css c 13)) j = lampN 48 48 128 (kAt css) j := fun j e => by
    unfold lampN
    rw [hk, if_neg e]
  constructor
  · refine Lit.mono (s := lampC css) (t := lampC (setM css c 13)) (fun j => ?_) (fun j hpj => ?_) (fun _ _ h => h)
    · show lampN 48 48 128 (kAt css) j ≤ lampN 48 48 128 (kAt (setM css c 13)) j
      by_cases e : j = mid c
      · unfold lampN
        rw [hk, if_pos e, e, h0]
        split <;> decide
      · rw [hs j e]; exact Nat.le_refl _
    · exact ⟨(hp j).trans hpj, Nat.le_of_eq (hl j)⟩
  · refine Lit.added (s := lampC css) (t := lampC (setM css c 13)) (c := mid c) (e := 14) (fun j => dist j (mid c)) (dist_self _) (fun j k hjk => ?_) (fun j u _ hu => lit_le (lamp_le _) hu) (fun j e => hs j e) (fun j _ => hp j) (fun j _ => hl j) (fun _ _ h => h)
    obtain ⟨hj, w, _, hn⟩ := hjk
    exact dist_step hj hn
/-- The lamp's own cell. -/
theorem adds_own {css : List (List Int)} {c : Nat} (h9 : css.length = 9) (h4 : (css.getD 4 []).length = 32768) (hc : c < 32768) {a : List Int} (ha : IsLight (lampC (setM css c 13)) a) : a.getD c 0 = 14 := by
  obtain ⟨_, l, hl, h2⟩ := ha
  rw [h2 c hc]
  have hm := mid_lt hc
  have h3 : (14 : Nat) ≤ l (mid c) := (hl (mid c) hm 14).1 (.own (by
    show 14 ≤ lampN 48 48 128 (kAt (setM css c 13)) (mid c)
    unfold lampN
    rw [if_pos hm, kAt_set h9 h4 hc, if_pos rfl]
    decide))
  have h5 : l (mid c) ≤ 14 := lit_le (lamp_le _) ((hl (mid c) hm _).2 (Nat.le_refl _))
  omega
/-- How far two cells of the middle chunk are. -/
theorem dist_mid (i c : Nat) : dist (mid i) (mid c) = absd (i % 16) (c % 16) + absd (i / 16 % 16) (c / 16 % 16) + absd (i / 256) (c / 256) := by
  obtain ⟨x, z, y, e, e1, e2, e3, hx, hz⟩ := digits16 i
  obtain ⟨x', z', y', f, f1, f2, f3, hx', hz'⟩ := digits16 c
  rw [e1, e2, e3, f1, f2, f3, e, f, mid_of hx hz, mid_of hx' hz']
  obtain ⟨m1, m2, m3, m4⟩ := made (W := 48) (D := 48) (y := y) (x := 16 + x) (z := 16 + z) (by omega) (by omega)
  obtain ⟨n1, n2, n3, n4⟩ := made (W := 48) (D := 48) (y := y') (x := 16 + x') (z := 16 + z') (by omega) (by omega)
  unfold dist
  rw [m1, m2, m3, m4, n1, n2, n3, n4, absd_shift, absd_shift]
/-! ### turned about -/
/-- A cell's place when the nine chunks are turned about in x. -/
def turn (i : Nat) : Nat := i / 48 * 48 + (47 - i % 48)
theorem turn_of {x z y : Nat} (hx : x < 48) (hz : z < 48) : turn ((y * 48 + z) * 48 + x) = (y * 48 + z) * 48 + (47 - x) := by
  obtain ⟨m1, m2, m3, m4⟩ := made (y := y) hx hz
  unfold turn
  rw [m1, m2]
theorem turn_turn (i : Nat) : turn (turn i) = i := by unfold turn; omega
theorem turn_lt {i : Nat} (h : i < 48 * 48 * 128) : turn i < 48 * 48 * 128 := by unfold turn; omega
theorem turn_nbr {i w j : Nat} (hi : i < 48 * 48 * 128) (h : nbr 48 48 128 i w = some j) : ∃ v, v < 6 ∧ nbr 48 48 128 (turn i) v = some (turn j) := by
  obtain ⟨x, z, y, x', z', y', rfl, rfl, ⟨h1, h2, h3⟩, ⟨k1, k2, k3⟩, q⟩ := nbr_digits (by omega) (by omega) hi h
  rw [turn_of h1 h2, turn_of k1 k2]
  rcases q with ⟨_, e1, e2, e3⟩ | ⟨_, e1, e2, e3⟩ | ⟨_, e1, e2, e3⟩ | ⟨_, e1, e2, e3⟩ | ⟨_, e1, e2, e3⟩ | ⟨_, e1, e2, e3⟩
  · refine ⟨1, by omega, ?_⟩
    rw [nbr_of (by omega) h2, if_neg (by omega), if_pos rfl, if_pos (by omega), e2, e3, show 47 - x + 1 = 47 - x' by omega]
  · refine ⟨0, by omega, ?_⟩
    rw [nbr_of (by omega) h2, if_pos rfl, if_pos (by omega), e2, e3, show 47 - x - 1 = 47 - x' by omega]
  · refine ⟨2, by omega, ?_⟩
    rw [nbr_of (by omega) h2, if_neg (by omega), if_neg (by omega), if_pos rfl, if_pos (by omega), e1, e3, show z - 1 = z' by omega]
  · refine ⟨3, by omega, ?_⟩
    rw [nbr_of (by omega) h2, if_neg (by omega), if_neg (by omega), if_neg (by omega), if_pos rfl, if_pos (by omega), e1, e2, e3]
  · refine ⟨4, by omega, ?_⟩
    rw [nbr_of (by omega) h2, if_neg (by omega), if_neg (by omega), if_neg (by omega), if_neg (by omega), if_pos rfl, if_pos (by omega), e1, e2, show y - 1 = y' by omega]
  · refine ⟨5, by omega, ?_⟩
    rw [nbr_of (by omega) h2, if_neg (by omega), if_neg (by omega), if_neg (by omega), if_neg (by omega), if_neg (by omega), if_pos rfl, if_pos (by omega), e1, e2, e3]
/-- Chunks that are turned about have their light turned about. -/
theorem mirrors {K K' : Nat → Int} (hk : ∀ i, K i = K' (turn i)) (i v : Nat) :
    (Lit (skyS 48 48 128 K (by omega) (by omega)) i v → Lit (skyS 48 48 128 K' (by omega) (by omega)) (turn i) v) ∧ (Lit (lampS 48 48 128 K (by omega) (by omega)) i v → Lit (lampS 48 48 128 K' (by omega) (by omega)) (turn i) v) := by
  have hin : ∀ j, (j < 48 * 48 * 128) = (turn j < 48 * 48 * 128) := fun j => propext ⟨turn_lt, fun h => by have := turn_lt h; rwa [turn_turn] at this⟩
  have hadj : ∀ a b, (a < 48 * 48 * 128 ∧ ∃ w, w < 6 ∧ nbr 48 48 128 a w = some b) → turn a < 48 * 48 * 128 ∧ ∃ w, w < 6 ∧ nbr 48 48 128 (turn a) w = some (turn b) := fun a b h => by
    obtain ⟨ha, w, _, hn⟩ := h
    exact ⟨turn_lt ha, turn_nbr ha hn⟩
  have hopen : ∀ j, openN 48 48 128 K j = openN 48 48 128 K' (turn j) := fun j => by
    unfold openN
    rw [show turn j / 48 / 48 = j / 48 / 48 by unfold turn; omega]
    congr 1
    funext t
    rw [hk, show turn (j + t * (48 * 48)) = turn j + t * (48 * 48) by unfold turn; omega]
  refine ⟨Lit.turned turn (fun j => ?_) (fun j => ?_) (fun j => ?_) hadj, Lit.turned turn (fun j => ?_) (fun j => ?_) (fun j => ?_) hadj⟩
  · show skyN 48 48 128 K j = skyN 48 48 128 K' (turn j)
    unfold skyN
    rw [hopen j]
    simp only [← hin j]
  · show passK (K j) = passK (K' (turn j)); rw [hk]
  · show lossK (K j) = lossK (K' (turn j)); rw [hk]
  · show lampN 48 48 128 K j = lampN 48 48 128 K' (turn j)
    unfold lampN
    rw [hk j]
    simp only [← hin j]
  · show passK (K j) = passK (K' (turn j)); rw [hk]
  · show lossK (K j) = lossK (K' (turn j)); rw [hk]
end
section
/-! ### cells that wait -/
/-- A cell still waits at that level: in a list below, or in this one behind its first k. -/
def Pend (wait : Nat → List Nat) (level k i v : Nat) : Prop := (v < level ∧ i ∈ wait v) ∨ (v = level ∧ i ∈ (wait level).drop k)
theorem Pend.le {wait : Nat → List Nat} {level k i v : Nat} (h : Pend wait level k i v) : v ≤ level := by
  rcases h with ⟨h, _⟩ | ⟨h, _⟩ <;> omega
theorem Pend.next {wait : Nat → List Nat} {level k i v m : Nat} (h : Pend wait level k i v) (hk : (wait level)[k]? = some m) (hi : i = m → v ≠ level) : Pend wait level (k + 1) i v := by
  rcases h with h | ⟨h3, h4⟩
  · exact .inl h
  · obtain ⟨hlt, he⟩ := List.getElem?_eq_some_iff.1 hk
    rw [List.drop_eq_getElem_cons hlt, he] at h4
    rcases List.mem_cons.1 h4 with e | h4
    · exact absurd h3 (hi e)
    · exact .inr ⟨h3, h4⟩
theorem Pend.more {wait : Nat → List Nat} {level k i v n u : Nat} (h : Pend wait level k i v) (hu : u < level) : Pend (fun x => if x = u then wait u ++ [n] else wait x) level k i v := by
  rcases h with ⟨h3, h4⟩ | ⟨h3, h4⟩
  · refine .inl ⟨h3, ?_⟩
    show i ∈ (if v = u then wait u ++ [n] else wait v)
    by_cases e : v = u
    · rw [if_pos e]; rw [e] at h4; exact List.mem_append_left _ h4
    · rw [if_neg e]; exact h4
  · refine .inr ⟨h3, ?_⟩
    show i ∈ List.drop k (if level = u then wait u ++ [n] else wait level)
    rw [if_neg (by omega)]
    exact h4
theorem Pend.down {wait : Nat → List Nat} {level k i v : Nat} (h : Pend wait (level + 1) k i v) (hk : (wait (level + 1)).length ≤ k) : Pend wait level 0 i v := by
  rcases h with ⟨h3, h4⟩ | ⟨h3, h4⟩
  · rcases Nat.lt_or_ge v level with h5 | h5
    · exact .inl ⟨h5, h4⟩
    · have e : v = level := by omega
      rw [e] at h4
      exact .inr ⟨e, by rw [List.drop_zero]; exact h4⟩
  · rw [List.drop_eq_nil_of_le hk] at h4
    cases h4
/-- Where the making anew stands. ex: ways from cell to cell that are looked after. -/
structure Rl (s : Sys) (ex : Nat → Nat → Prop) (l : Nat → Nat) (wait : Nat → List Nat) (level k : Nat) : Prop where
  sound : ∀ i, Lit s i (l i)
  own : ∀ i, i < s.n → l i < s.src i → ∃ v, s.src i ≤ v ∧ Pend wait level k i v
  edge : ∀ j i, s.adj j i → s.pass i = true → ex j i → l i < l j - s.loss i → ∃ v, l j - s.loss i ≤ v ∧ Pend wait level k i v
  good : ∀ v, ∀ i ∈ wait v, i < s.n ∧ Lit s i v
def Ev : Nat → Nat → Prop := fun _ _ => True
def Exc (m : Nat) (dn : List Nat) : Nat → Nat → Prop := fun j i => j ≠ m ∨ i ∈ dn
/-- What a cell that is dark is due. -/
structure Due (s : Sys) (l : Nat → Nat) (dn : List Nat) (i v : Nat) : Prop where
  src : s.src i ≤ v
  from' : s.pass i = true → ∀ j ∈ dn, l j - s.loss i ≤ v
  got : v ≤ s.src i ∨ (s.pass i = true ∧ ∃ j ∈ dn, v + s.loss i ≤ l j)
theorem Due.start (s : Sys) (l : Nat → Nat) (i : Nat) : Due s l [] i (s.src i) := ⟨Nat.le_refl _, (by intro _ j hj; cases hj), .inl (Nat.le_refl _)⟩
theorem Due.shut {s : Sys} {l : Nat → Nat} {dn : List Nat} {i v : Nat} (h : Due s l dn i v) (hp : s.pass i = false) (n : Nat) : Due s l (dn ++ [n]) i v :=
  ⟨h.src, (by intro q; rw [hp] at q; cases q), h.got.elim .inl (fun q => by rw [hp] at q; cases q.1)⟩
theorem Due.step {s : Sys} {l : Nat → Nat} {dn : List Nat} {i v : Nat} (h : Due s l dn i v) (hp : s.pass i = true) (n : Nat) : Due s l (dn ++ [n]) i (max v (l n - s.loss i)) := by
  refine ⟨Nat.le_trans h.src (Nat.le_max_left _ _), fun _ j hj => ?_, ?_⟩
  · rcases List.mem_append.1 hj with hj | hj
    · exact Nat.le_trans (h.from' hp j hj) (Nat.le_max_left _ _)
    · rw [List.mem_singleton.1 hj]; exact Nat.le_max_right _ _
  · rcases Nat.le_total (l n - s.loss i) v with h1 | h1
    · rw [Nat.max_eq_left h1]
      exact h.got.imp id (fun ⟨p, j, hj, q⟩ => ⟨p, j, List.mem_append_left _ hj, q⟩)
    · rw [Nat.max_eq_right h1]
      rcases Nat.eq_zero_or_pos (l n - s.loss i) with h2 | h2
      · left; omega
      · exact .inr ⟨hp, n, List.mem_append_right _ List.mem_cons_self, by omega⟩
theorem Due.le {s : Sys} {l : Nat → Nat} {dn : List Nat} {i v : Nat} (h : Due s l dn i v) (hl : ∀ j, l j ≤ 15) : v ≤ 15 := by
  rcases h.got with q | ⟨_, j, _, q⟩
  · exact Nat.le_trans q (s.src_le i)
  · have := hl j; omega
theorem Due.lit {s : Sys} {l : Nat → Nat} {dn : List Nat} {i v : Nat} (h : Due s l dn i v) (hs : ∀ j, Lit s j (l j)) (hd : ∀ j ∈ dn, s.adj j i) : Lit s i v := by
  rcases h.got with q | ⟨p, j, hj, q⟩
  · exact .own q
  · exact .comes (hs j) (hd j hj) p q
/-- A field of levels that may be made anew at the cells of d. -/
structure Ready (s : Sys) (l : Nat → Nat) (d : List Nat) : Prop where
  sound : ∀ i, Lit s i (l i)
  rest : ∀ i, i < s.n → i ∈ d ∨ (s.src i ≤ l i ∧ ∀ j, s.adj j i → s.pass i = true → l j - s.loss i ≤ l i)
/-- The lists, when the first k cells of d have been put where they are due. -/
structure Put1 (s : Sys) (l : Nat → Nat) (d : List Nat) (k : Nat) (wait : Nat → List Nat) : Prop where
  has : ∀ i ∈ d.take k, ∃ v, v ≤ 15 ∧ i ∈ wait v ∧ s.src i ≤ v ∧ ∀ j, s.adj j i → s.pass i = true → l j - s.loss i ≤ v
  good : ∀ v, ∀ i ∈ wait v, i < s.n ∧ Lit s i v
theorem Put1.start (s : Sys) (l : Nat → Nat) (d : List Nat) : Put1 s l d 0 (fun _ => []) := ⟨(by intro i hi; rw [List.take_zero] at hi; cases hi), (by intro v i hi; cases hi)⟩
theorem Put1.step {s : Sys} {l : Nat → Nat} {d : List Nat} {k : Nat} {wait : Nat → List Nat} (h : Put1 s l d k wait) {i v : Nat} (hi : d[k]? = some i) (hn : i < s.n) {dn : List Nat} (hd : Due s l dn i v) (hdn : ∀ j, s.adj j i ↔ j ∈ dn) (hl : ∀ j, l j ≤ 15) (hs : ∀ j, Lit s j (l j)) :
    Put1 s l d (k + 1) (fun u => if u = v then wait v ++ [i] else wait u) := by
  have key : ∀ u x, x ∈ wait u → x ∈ (if u = v then wait v ++ [i] else wait u) := fun u x hx => by
    by_cases e : u = v
    · rw [if_pos e]; rw [e] at hx; exact List.mem_append_left _ hx
    · rw [if_neg e]; exact hx
  obtain ⟨hlt, he⟩ := List.getElem?_eq_some_iff.1 hi
  refine ⟨fun x hx => ?_, fun u x hx => ?_⟩
  · rw [List.take_succ_eq_append_getElem hlt, he] at hx
    rcases List.mem_append.1 hx with hx | hx
    · obtain ⟨y, h1, h2, h3⟩ := h.has x hx
      exact ⟨y, h1, key _ _ h2, h3⟩
    · rw [List.mem_singleton.1 hx]
      refine ⟨v, hd.le hl, ?_, hd.src, fun j hj hp => hd.from' hp j ((hdn j).1 hj)⟩
      show i ∈ (if v = v then wait v ++ [i] else wait v)
      rw [if_pos rfl]
      exact List.mem_append_right _ List.mem_cons_self
  · have hx : x ∈ (if u = v then wait v ++ [i] else wait u) := hx
    by_cases e : u = v
    · rw [if_pos e] at hx
      rcases List.mem_append.1 hx with hx | hx
      · rw [e]; exact h.good _ _ hx
      · rw [List.mem_singleton.1 hx, e]; exact ⟨hn, hd.lit hs (fun j hj => (hdn j).2 hj)⟩
    · rw [if_neg e] at hx; exact h.good _ _ hx
theorem Rl.start {s : Sys} {l : Nat → Nat} {d : List Nat} {wait : Nat → List Nat} (h : Ready s l d) (hp : Put1 s l d d.length wait) : Rl s Ev l wait 15 0 := by
  have key : ∀ i v, v ≤ 15 → i ∈ wait v → Pend wait 15 0 i v := fun i v hv hi => by
    rcases Nat.lt_or_ge v 15 with h1 | h1
    · exact .inl ⟨h1, hi⟩
    · have e : v = 15 := by omega
      rw [e] at hi
      exact .inr ⟨e, by rw [List.drop_zero]; exact hi⟩
  refine ⟨h.sound, fun i hi hl => ?_, fun j i ha hpi _ hl => ?_, hp.good⟩
  · rcases h.rest i hi with h1 | ⟨h1, _⟩
    · obtain ⟨v, hv, hm, h2, _⟩ := hp.has i (by rw [List.take_length]; exact h1)
      exact ⟨v, h2, key i v hv hm⟩
    · omega
  · rcases h.rest i (s.adj_lt _ _ ha) with h1 | ⟨_, h1⟩
    · obtain ⟨v, hv, hm, _, h2⟩ := hp.has i (by rw [List.take_length]; exact h1)
      exact ⟨v, h2 j ha hpi, key i v hv hm⟩
    · have := h1 j ha hpi; omega
/-- A cell that is bright enough already. -/
theorem Rl.skip {s : Sys} {ex : Nat → Nat → Prop} {l : Nat → Nat} {wait : Nat → List Nat} {level k m : Nat} (h : Rl s ex l wait level k) (hk : (wait level)[k]? = some m) (hm : level ≤ l m) : Rl s ex l wait level (k + 1) := by
  refine ⟨h.sound, fun i hi hl => ?_, fun j i ha hp hx hl => ?_, h.good⟩
  · obtain ⟨v, hv, hq⟩ := h.own i hi hl
    exact ⟨v, hv, hq.next hk (by rintro rfl rfl; omega)⟩
  · obtain ⟨v, hv, hq⟩ := h.edge j i ha hp hx hl
    exact ⟨v, hv, hq.next hk (by rintro rfl rfl; omega)⟩
/-- A cell that is given its level. -/
theorem Rl.set {s : Sys} {l : Nat → Nat} {wait : Nat → List Nat} {level k m : Nat} (h : Rl s Ev l wait level k) (hk : (wait level)[k]? = some m) (hm : l m < level) : Rl s (Exc m []) (upd l m level) wait level (k + 1) := by
  refine ⟨fun i => ?_, fun i hi hl => ?_, fun j i ha hp hx hl => ?_, h.good⟩
  · by_cases e : i = m
    · subst e; rw [upd_same]; exact (h.good level i (List.mem_of_getElem? hk)).2
    · rw [upd_other e]; exact h.sound i
  · by_cases e : i = m
    · subst e
      rw [upd_same] at hl
      obtain ⟨v, hv, hq⟩ := h.own i hi (by omega)
      have := hq.le
      omega
    · rw [upd_other e] at hl
      obtain ⟨v, hv, hq⟩ := h.own i hi hl
      exact ⟨v, hv, hq.next hk (fun q => absurd q e)⟩
  · rcases hx with hj | hj
    · rw [upd_other hj] at hl ⊢
      by_cases e : i = m
      · subst e
        rw [upd_same] at hl
        obtain ⟨v, hv, hq⟩ := h.edge j i ha hp trivial (by omega)
        have := hq.le
        omega
      · rw [upd_other e] at hl
        obtain ⟨v, hv, hq⟩ := h.edge j i ha hp trivial hl
        exact ⟨v, hv, hq.next hk (fun q => absurd q e)⟩
    · cases hj
/-- A neighbour that gets nothing more. -/
theorem Rl.none {s : Sys} {l : Nat → Nat} {wait : Nat → List Nat} {level k m : Nat} {dn : List Nat} (h : Rl s (Exc m dn) l wait level k) {n : Nat} (hn : s.pass n = true → l m - s.loss n ≤ l n) : Rl s (Exc m (dn ++ [n])) l wait level k := by
  refine ⟨h.sound, h.own, fun j i ha hp hx hl => ?_, h.good⟩
  rcases hx with hj | hj
  · exact h.edge j i ha hp (.inl hj) hl
  · rcases List.mem_append.1 hj with hj | hj
    · exact h.edge j i ha hp (.inr hj) hl
    · rw [List.mem_singleton.1 hj] at hp hl ⊢
      by_cases e : j = m
      · subst e; have := hn hp; omega
      · rw [List.mem_singleton.1 hj] at ha
        exact h.edge j n ha hp (.inl e) hl
/-- A neighbour that waits for what it gets. -/
theorem Rl.wait {s : Sys} {l : Nat → Nat} {wait : Nat → List Nat} {level k m : Nat} {dn : List Nat} (h : Rl s (Exc m dn) l wait level k) {n g : Nat} (hm : l m = level) (ha : s.adj m n) (hp : s.pass n = true) (hg : g + s.loss n = level) : Rl s (Exc m (dn ++ [n])) l (fun u => if u = g then wait g ++ [n] else wait u) level k := by
  have hlp := s.loss_pos n hp
  have hu : g < level := by omega
  refine ⟨h.sound, fun i hi hl => ?_, fun j i ha hp' hx hl => ?_, fun u x hx => ?_⟩
  · obtain ⟨v, hv, hq⟩ := h.own i hi hl
    exact ⟨v, hv, hq.more hu⟩
  · have old : Exc m dn j i → ∃ v, l j - s.loss i ≤ v ∧ Pend (fun u => if u = g then wait g ++ [n] else wait u) level k i v := fun hx => by
      obtain ⟨v, hv, hq⟩ := h.edge j i ha hp' hx hl
      exact ⟨v, hv, hq.more hu⟩
    rcases hx with hj | hj
    · exact old (.inl hj)
    · rcases List.mem_append.1 hj with hj | hj
      · exact old (.inr hj)
      · by_cases e : j = m
        · refine ⟨g, ?_, .inl ⟨hu, ?_⟩⟩
          · rw [List.mem_singleton.1 hj, e]; omega
          · show i ∈ (if g = g then wait g ++ [n] else wait g)
            rw [if_pos rfl, List.mem_singleton.1 hj]
            exact List.mem_append_right _ List.mem_cons_self
        · exact old (.inl e)
  · have hx : x ∈ (if u = g then wait g ++ [n] else wait u) := hx
    by_cases e : u = g
    · rw [if_pos e] at hx
      rcases List.mem_append.1 hx with hx | hx
      · rw [e]; exact h.good _ _ hx
      · rw [List.mem_singleton.1 hx, e]
        exact ⟨s.adj_lt _ _ ha, .comes (h.sound m) ha hp (by omega)⟩
    · rw [if_neg e] at hx; exact h.good _ _ hx
theorem Rl.all {s : Sys} {l : Nat → Nat} {wait : Nat → List Nat} {level k m : Nat} {dn : List Nat} (h : Rl s (Exc m dn) l wait level k) (hd : ∀ i, s.adj m i → i ∈ dn) : Rl s Ev l wait level k :=
  ⟨h.sound, h.own, fun j i ha hp _ hl => h.edge j i ha hp (by
    by_cases e : j = m
    · subst e; exact .inr (hd i ha)
    · exact .inl e) hl, h.good⟩
theorem Rl.down {s : Sys} {ex : Nat → Nat → Prop} {l : Nat → Nat} {wait : Nat → List Nat} {level k : Nat} (h : Rl s ex l wait (level + 1) k) (hk : (wait (level + 1)).length ≤ k) : Rl s ex l wait level 0 := by
  refine ⟨h.sound, fun i hi hl => ?_, fun j i ha hp hx hl => ?_, h.good⟩
  · obtain ⟨v, hv, hq⟩ := h.own i hi hl
    exact ⟨v, hv, hq.down hk⟩
  · obtain ⟨v, hv, hq⟩ := h.edge j i ha hp hx hl
    exact ⟨v, hv, hq.down hk⟩
theorem Rl.told {s : Sys} {l : Nat → Nat} {wait : Nat → List Nat} (h : Rl s Ev l wait 0 0) (hz : ∀ i, s.n ≤ i → s.src i = 0) : Told s l := by
  refine told_of (fun i _ => h.sound i) (fun i => ?_) fun j i ha hp => ?_
  · rcases Nat.lt_or_ge i s.n with hi | hi
    · rcases Nat.lt_or_ge (l i) (s.src i) with h1 | h1
      · obtain ⟨v, hv, hq⟩ := h.own i hi h1
        have := hq.le
        omega
      · exact h1
    · rw [hz i hi]; exact Nat.zero_le _
  · rcases Nat.lt_or_ge (l i) (l j - s.loss i) with h1 | h1
    · obtain ⟨v, hv, hq⟩ := h.edge j i ha hp trivial h1
      have := hq.le
      omega
    · exact h1
/-! ### cells that are darkened -/
/-- Levels without those of the cells of d. -/
def dim (l : Nat → Nat) (d : List Nat) : Nat → Nat := fun i => if i ∈ d then 0 else l i
theorem dim_in {l : Nat → Nat} {d : List Nat} {i : Nat} (h : i ∈ d) : dim l d i = 0 := if_pos h
theorem dim_out {l : Nat → Nat} {d : List Nat} {i : Nat} (h : i ∉ d) : dim l d i = l i := if_neg h
theorem dim_nil (l : Nat → Nat) : dim l [] = l := by funext i; exact if_neg (by intro h; cases h)
theorem dim_le (l : Nat → Nat) (d : List Nat) (i : Nat) : dim l d i ≤ l i := by unfold dim; split <;> omega
theorem dim_more (l : Nat → Nat) (d : List Nat) (n : Nat) : dim l (d ++ [n]) = upd (dim l d) n 0 := by
  funext i
  unfold upd
  by_cases e : i = n
  · rw [if_pos e, e]; exact dim_in (List.mem_append_right _ List.mem_cons_self)
  · rw [if_neg e]
    unfold dim
    by_cases h : i ∈ d
    · rw [if_pos h, if_pos (List.mem_append_left _ h)]
    · rw [if_neg h, if_neg (fun q => (List.mem_append.1 q).elim h (fun q => e (List.mem_singleton.1 q)))]
/-- Another system, that differs at c, and in what shines of its own at the cells of d. -/
structure Near (s t : Sys) (c : Nat) (d : List Nat) : Prop where
  n : t.n = s.n
  adj : ∀ i j, t.adj i j ↔ s.adj i j
  pass : ∀ i, i ≠ c → t.pass i = s.pass i
  loss : ∀ i, i ≠ c → t.loss i = s.loss i
  src : ∀ i, i < s.n → i ∉ d → t.src i = s.src i
  mem : c ∈ d
/-- The first k of the darkened cells have darkened what had its light from them. -/
def Shut (s : Sys) (l : Nat → Nat) (d : List Nat) (k : Nat) : Prop := ∀ m ∈ d.take k, ∀ i, s.adj m i → i ∈ d ∨ l i = 0 ∨ (s.pass i = true → l i + s.loss i ≠ l m)
theorem Near.ready {s t : Sys} {c : Nat} {d : List Nat} {l : Nat → Nat} (h : Near s t c d) (hl : Told s l) (h0 : ∀ i, s.n ≤ i → l i = 0) (hs : Shut t l d d.length) (hlt : ∀ j i, s.adj j i → j < s.n) : Ready t (dim l d) d := by
  have sym : ∀ i, i < s.n → i ∉ d → i ≠ c := fun i _ hi e => hi (e ▸ h.mem)
  have sound : ∀ k i, l i + k = 15 → i ∉ d → i < s.n → Lit t i (l i) := by
    intro k
    induction k using Nat.strongRecOn with
    | ind k ih =>
      intro i hk hi hn
      rcases Nat.eq_zero_or_pos (l i) with hz | hz
      · rw [hz]; exact .own (Nat.zero_le _)
      rcases lit_iff.1 ((hl i hn (l i)).2 (Nat.le_refl _)) with h1 | ⟨hp, j, ha, h1⟩
      · exact .own (by rw [h.src i hn hi]; exact h1)
      · have hic := sym i hn hi
        have hj := hlt _ _ ha
        have h2 : l i + s.loss i ≤ l j := (hl j hj _).1 h1
        have h3 : l j - s.loss i ≤ l i := (hl i hn _).1 (.comes ((hl j hj (l j)).2 (Nat.le_refl _)) ha hp (by omega))
        have hlp := s.loss_pos i hp
        have h15 := hl.le hj
        by_cases hjd : j ∈ d
        · rcases hs j (by rw [List.take_length]; exact hjd) i ((h.adj j i).2 ha) with q | q | q
          · exact absurd q hi
          · omega
          · exact absurd (by rw [h.loss i hic]; omega) (q (by rw [h.pass i hic]; exact hp))
        · exact .comes (ih (15 - l j) (by omega) j (by omega) hjd hj) ((h.adj j i).2 ha) (by rw [h.pass i hic]; exact hp) (by rw [h.loss i hic]; exact h2)
  refine ⟨fun i => ?_, fun i hi => ?_⟩
  · by_cases hd : i ∈ d
    · rw [dim_in hd]; exact .own (Nat.zero_le _)
    · rw [dim_out hd]
      rcases Nat.lt_or_ge i s.n with hi | hi
      · exact sound (15 - l i) i (by have := hl.le hi; omega) hd hi
      · rw [h0 i hi]; exact .own (Nat.zero_le _)
  · by_cases hd : i ∈ d
    · exact .inl hd
    · right
      have hi : i < s.n := by rw [← h.n]; exact hi
      have hic := sym i hi hd
      rw [dim_out hd]
      refine ⟨?_, fun j ha hp => ?_⟩
      · rw [h.src i hi hd]
        exact (hl i hi _).1 (.own (Nat.le_refl _))
      · rw [h.loss i hic]
        rw [h.pass i hic] at hp
        have ha := (h.adj j i).1 ha
        have hdl := dim_le l d j
        rcases Nat.lt_or_ge j s.n with hj | hj
        · by_cases hz : s.loss i ≤ l j
          · have h3 : l j - s.loss i ≤ l i := (hl i hi _).1 (.comes ((hl j hj (l j)).2 (Nat.le_refl _)) ha hp (by omega))
            omega
          · omega
        · rw [h0 j hj] at hdl; omega
/-- The start: all cells are dark. -/
theorem ready_all (s : Sys) : Ready s (fun _ => 0) (List.range s.n) := ⟨fun _ => .own (Nat.zero_le _), fun _ hi => .inl (List.mem_range.2 hi)⟩
/-! ### neighbours as a list -/
/-- The cells about a cell, in their order. -/
def nbl (W D T i : Nat) : List Nat := (List.range 6).filterMap (nbr W D T i)
theorem mem_nbl {W D T i j : Nat} : j ∈ nbl W D T i ↔ ∃ w, w < 6 ∧ nbr W D T i w = some j := by
  unfold nbl
  rw [List.mem_filterMap]
  simp only [List.mem_range]
/-! ### columns of the sky -/
section
variable {W D T : Nat} {K K' : Nat → Int} {c : Nat}
theorem layer_row {i : Nat} (hW : 0 < W) (hD : 0 < D) : (i + W * D) / W / D = i / W / D + 1 := by
  rw [Nat.div_div_eq_div_mul, Nat.div_div_eq_div_mul, Nat.add_div_right _ (Nat.mul_pos hW hD)]
theorem open_top {i : Nat} (hW : 0 < W) (hD : 0 < D) (h1 : i < W * D * T) (h2 : W * D * T ≤ i + W * D) : openN W D T K i = clearK (K i) := by
  have hy : i / W / D < T := row_lt h1
  have hy2 : T ≤ (i + W * D) / W / D := by
    rcases Nat.lt_or_ge ((i + W * D) / W / D) T with h | h
    · rw [Nat.div_div_eq_div_mul] at h
      have := (Nat.div_lt_iff_lt_mul (Nat.mul_pos hW hD)).1 h
      rw [Nat.mul_comm T] at this
      omega
    · exact h
  rw [layer_row hW hD] at hy2
  unfold openN
  rw [show T - i / W / D = 1 by omega]
  simp
theorem open_step {i : Nat} (hW : 0 < W) (hD : 0 < D) (h : i + W * D < W * D * T) : openN W D T K i = (clearK (K i) && openN W D T K (i + W * D)) := by
  have hy : (i + W * D) / W / D < T := row_lt h
  rw [layer_row hW hD] at hy
  unfold openN
  rw [layer_row hW hD, show T - i / W / D = (T - (i / W / D + 1)) + 1 by omega, List.range_succ_eq_map, List.all_cons, List.all_map]
  simp only [Nat.zero_mul, Nat.add_zero]
  congr 1
  congr 1
  funext t
  simp only [Function.comp]
  congr 2
  rw [Nat.succ_mul]
  omega
theorem open_same {i : Nat} (h : ∀ t, K (i + t * (W * D)) = K' (i + t * (W * D))) : openN W D T K i = openN W D T K' i := by
  unfold openN
  congr 1
  funext t
  rw [h]
/-- What is not below a changed cell, or lies below a cell whose sky is as it was, has the sky that it had. -/
theorem sky_same (hW : 0 < W) (hD : 0 < D) (hK : ∀ i, i ≠ c → K' i = K i) (d : List Nat) {k : Nat} (hd : ∀ t, t < k → t * (W * D) ≤ c → c - t * (W * D) ∈ d) (hc : c < W * D * T)
    (hk : 0 < k ∧ (c < k * (W * D) ∨ skyN W D T K' (c - k * (W * D)) = skyN W D T K (c - k * (W * D)))) {i : Nat} (hi : i < W * D * T) (hid : i ∉ d) : skyN W D T K' i = skyN W D T K i := by
  have hL : 0 < W * D := Nat.mul_pos hW hD
  by_cases hb : ∃ t, c = i + t * (W * D)
  case neg =>
    unfold skyN
    rw [open_same (K := K') (K' := K) fun t => hK _ (fun e => hb ⟨t, e.symm⟩)]
  obtain ⟨t, ht⟩ := hb
  have hkt : k ≤ t := by
    rcases Nat.lt_or_ge t k with h | h
    · exact absurd (by have := hd t h (by omega); rwa [show c - t * (W * D) = i by omega] at this) hid
    · exact h
  have hle : k * (W * D) ≤ c := by
    have := Nat.mul_le_mul_right (W * D) hkt
    omega
  have hs := hk.2.resolve_left (by omega)
  have hopen : ∀ u, k ≤ u → ∀ x, c = x + u * (W * D) → x < W * D * T → openN W D T K' x = openN W D T K x := by
    intro u hu
    induction u with
    | zero => have := hk.1; omega
    | succ u ih =>
      intro x hx hxn
      rcases Nat.lt_or_ge u k with h | h
      · have e : u + 1 = k := by omega
        rw [show c - k * (W * D) = x by rw [← e]; omega] at hs
        unfold skyN at hs
        by_cases h1 : openN W D T K' x = true <;> by_cases h2 : openN W D T K x = true
        · rw [h1, h2]
        · rw [if_pos ⟨hxn, h1⟩, if_neg (fun q => h2 q.2)] at hs; omega
        · rw [if_neg (fun q => h1 q.2), if_pos ⟨hxn, h2⟩] at hs; omega
        · rw [Bool.not_eq_true] at h1 h2; rw [h1, h2]
      · have e : c = x + W * D + u * (W * D) := by rw [Nat.succ_mul] at hx; omega
        have hlt : x + W * D < W * D * T := by omega
        have hne : x ≠ c := by omega
        rw [open_step hW hD hlt, open_step hW hD hlt, ih h _ e hlt, hK x hne]
  unfold skyN
  rw [hopen t hkt i ht hi]
theorem lamp_same (hK : ∀ j, j ≠ c → K' j = K j) {i : Nat} (hi : i ≠ c) : lampN W D T K' i = lampN W D T K i := by
  unfold lampN
  rw [hK i hi]
/-- A cell has all light there is just where the sky is open. -/
theorem shone_sky {hW : 0 < W} {hD : 0 < D} {l : Nat → Nat} (h : Told (skyS W D T K hW hD) l) {i : Nat} (hi : i < W * D * T) : l i = 15 ↔ skyN W D T K i = 15 := by
  constructor
  · intro e
    have h1 : Lit (skyS W D T K hW hD) i 15 := (h i hi 15).2 (by omega)
    rcases lit_iff.1 h1 with q | ⟨hp, j, _, q⟩
    · have : (skyS W D T K hW hD).src i ≤ 15 := (skyS W D T K hW hD).src_le i
      exact Nat.le_antisymm this q
    · have := (skyS W D T K hW hD).loss_pos i hp
      have := q.le
      omega
  · intro e
    have h1 : (skyS W D T K hW hD).src i ≤ l i := (h i hi _).1 (.own (Nat.le_refl _))
    have h2 := h.le (i := i) hi
    have h3 : (skyS W D T K hW hD).src i = skyN W D T K i := rfl
    omega
theorem lamp_lt (i : Nat) : lampN W D T K i ≤ 14 := by
  unfold lampN emitsK
  split <;> (try split) <;> (try split) <;> omega
theorem shone_lamp {hW : 0 < W} {hD : 0 < D} {l : Nat → Nat} (h : Told (lampS W D T K hW hD) l) {i : Nat} (hi : i < W * D * T) : l i ≤ 14 := by
  rcases lit_iff.1 ((h i hi (l i)).2 (Nat.le_refl _)) with q | ⟨hp, j, _, q⟩
  · exact Nat.le_trans q (lamp_lt i)
  · have := (lampS W D T K hW hD).loss_pos i hp
    have := q.le
    omega
end
end
end Go.Proofs.YtmfjmcaaoljjlaaDoor.L
