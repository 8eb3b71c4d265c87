/-
  Plain: cells that are offered light and wait for it by level, the brightest first; a field with a rim about it.
-/
import Derived.Test.YtjeapaojbkicmabDoorLLaws
namespace Go.Proofs.YtjeapaojbkicmabDoor.L

/-! ### offers -/
/-- What a cell m has for a cell i is there already, or i waits for it. -/
def Off (s : Sys) (l : Nat → Nat) (wait : Nat → List Nat) (level k m i : Nat) : Prop :=
  l m ≤ l i + s.loss i ∨ ∃ v, v + s.loss i = l m ∧ ((v < level ∧ i ∈ wait v) ∨ (v = level ∧ i ∈ (wait level).drop k))
/-- Where the spreading stands: D m i: m has offered its light to i. -/
structure Bq (s : Sys) (l : Nat → Nat) (wait : Nat → List Nat) (level k : Nat) (D : Nat → Nat → Prop) : Prop where
  sound : ∀ i, Lit s i (l i)
  low : ∀ i, s.src i ≤ l i
  wlit : ∀ v, ∀ i ∈ wait v, 1 ≤ v ∧ Lit s i v
  todo : ∀ m i, D m i → s.adj m i → s.pass i = true → Off s l wait level k m i
theorem Bq.start {s : Sys} {l : Nat → Nat} (h : ∀ i, l i = s.src i) : Bq s l (fun _ => []) 15 0 (fun _ _ => False) where
  sound i := .own (Nat.le_of_eq (h i))
  low i := Nat.le_of_eq (h i).symm
  wlit v i hi := by cases hi
  todo m i hd := hd.elim
theorem Bq.mono {s : Sys} {l : Nat → Nat} {wait : Nat → List Nat} {level k : Nat} {D D' : Nat → Nat → Prop} (h : Bq s l wait level k D) (hd : ∀ m i, D' m i → s.adj m i → s.pass i = true → D m i ∨ l m ≤ l i + s.loss i) : Bq s l wait level k D' :=
  ⟨h.sound, h.low, h.wlit, fun m i h1 h2 h3 => (hd m i h1 h2 h3).elim (fun h4 => h.todo m i h4 h2 h3) .inl⟩
def pushW (wait : Nat → List Nat) (v i : Nat) : Nat → List Nat := fun u => if u = v then wait v ++ [i] else wait u
theorem pushW_mem {wait : Nat → List Nat} {v i u j : Nat} (h : j ∈ wait u) : j ∈ pushW wait v i u := by
  unfold pushW
  by_cases e : u = v
  · rw [if_pos e]; subst e; exact List.mem_append_left _ h
  · rw [if_neg e]; exact h
theorem pushW_other {wait : Nat → List Nat} {v i u : Nat} (h : u ≠ v) : pushW wait v i u = wait u := if_neg h
/-- A cell is offered light that it does not have: it waits. -/
theorem Bq.push {s : Sys} {l : Nat → Nat} {wait : Nat → List Nat} {level k m i v : Nat} {D : Nat → Nat → Prop} (h : Bq s l wait level k D) (ha : s.adj m i) (hp : s.pass i = true) (hv : v + s.loss i = l m) (hl : l m ≤ level) (h1 : 1 ≤ v) :
    Bq s l (pushW wait v i) level k (fun a b => D a b ∨ (a = m ∧ b = i)) := by
  have hlo := s.loss_pos i hp
  have hne : level ≠ v := by omega
  refine ⟨h.sound, h.low, fun u j hj => ?_, fun a b hd hadj hpb => ?_⟩
  · unfold pushW at hj
    by_cases e : u = v
    · rw [if_pos e] at hj
      rcases List.mem_append.1 hj with hj | hj
      · rw [e]; exact h.wlit v j hj
      · obtain rfl := List.mem_singleton.1 hj
        rw [e]
        exact ⟨h1, .comes (h.sound m) ha hp (by omega)⟩
    · rw [if_neg e] at hj; exact h.wlit u j hj
  · rcases hd with hd | ⟨rfl, rfl⟩
    · rcases h.todo a b hd hadj hpb with h2 | ⟨u, h3, h4 | h4⟩
      · exact .inl h2
      · exact .inr ⟨u, h3, .inl ⟨h4.1, pushW_mem h4.2⟩⟩
      · exact .inr ⟨u, h3, .inr ⟨h4.1, by rw [pushW_other hne]; exact h4.2⟩⟩
    · exact .inr ⟨v, hv, .inl ⟨by omega, by unfold pushW; rw [if_pos rfl]; exact List.mem_append_right _ List.mem_cons_self⟩⟩
/-- A cell has what it is offered. -/
theorem Bq.skip {s : Sys} {l : Nat → Nat} {wait : Nat → List Nat} {level k m i : Nat} {D : Nat → Nat → Prop} (h : Bq s l wait level k D) (hs : s.pass i = true → l m ≤ l i + s.loss i) : Bq s l wait level k (fun a b => D a b ∨ (a = m ∧ b = i)) :=
  h.mono fun a b hd _ hp => hd.elim .inl fun ⟨h1, h2⟩ => .inr (by subst h1; subst h2; exact hs hp)
/-- The next of the list has that light already. -/
theorem Bq.pass {s : Sys} {l : Nat → Nat} {wait : Nat → List Nat} {level k m : Nat} (h : Bq s l wait level k (fun _ _ => True)) (hk : (wait level)[k]? = some m) (hl : level ≤ l m) : Bq s l wait level (k + 1) (fun _ _ => True) := by
  refine ⟨h.sound, h.low, h.wlit, fun a b hd hadj hp => ?_⟩
  rcases h.todo a b hd hadj hp with h2 | ⟨u, h3, h4 | ⟨h4, h5⟩⟩
  · exact .inl h2
  · exact .inr ⟨u, h3, .inl h4⟩
  · obtain ⟨hlt, he⟩ := List.getElem?_eq_some_iff.1 hk
    rw [List.drop_eq_getElem_cons hlt, he] at h5
    rcases List.mem_cons.1 h5 with e | h5
    · exact .inl (by rw [e] at h3 ⊢; omega)
    · exact .inr ⟨u, h3, .inr ⟨h4, h5⟩⟩
/-- The next of the list gets that light; it has offered nothing of it yet. -/
theorem Bq.light {s : Sys} {l : Nat → Nat} {wait : Nat → List Nat} {level k m : Nat} (h : Bq s l wait level k (fun _ _ => True)) (hk : (wait level)[k]? = some m) (hl : l m < level) : Bq s (upd l m level) wait level (k + 1) (fun a _ => a ≠ m) := by
  obtain ⟨hlt, he⟩ := List.getElem?_eq_some_iff.1 hk
  have hmem : m ∈ wait level := by rw [← he]; exact List.getElem_mem hlt
  have hup : ∀ i, l i ≤ upd l m level i := upd_le (Nat.le_of_lt hl)
  refine ⟨fun i => ?_, fun i => Nat.le_trans (h.low i) (hup i), h.wlit, fun a b hd hadj hp => ?_⟩
  · by_cases e : i = m
    · subst e; rw [upd_same]; exact (h.wlit level i hmem).2
    · rw [upd_other e]; exact h.sound i
  · have ea : upd l m level a = l a := upd_other hd
    unfold Off
    rw [ea]
    by_cases e : b = m
    · subst e
      rw [upd_same]
      rcases h.todo a b trivial hadj hp with h2 | ⟨u, h3, h4 | ⟨h4, h5⟩⟩
      · exact .inl (by omega)
      · exact .inl (by omega)
      · exact .inl (by omega)
    · rw [upd_other e]
      rcases h.todo a b trivial hadj hp with h2 | ⟨u, h3, h4 | ⟨h4, h5⟩⟩
      · exact .inl h2
      · exact .inr ⟨u, h3, .inl h4⟩
      · rw [List.drop_eq_getElem_cons hlt, he] at h5
        rcases List.mem_cons.1 h5 with e2 | h5
        · exact absurd e2 e
        · exact .inr ⟨u, h3, .inr ⟨h4, h5⟩⟩
/-- A list is done with. -/
theorem Bq.down {s : Sys} {l : Nat → Nat} {wait : Nat → List Nat} {level k : Nat} {D : Nat → Nat → Prop} (h : Bq s l wait (level + 1) k D) (hk : (wait (level + 1)).length ≤ k) : Bq s l wait level 0 D := by
  refine ⟨h.sound, h.low, h.wlit, fun a b hd hadj hp => ?_⟩
  rcases h.todo a b hd hadj hp with h2 | ⟨u, h3, ⟨h4, h5⟩ | ⟨h4, h5⟩⟩
  · exact .inl h2
  · rcases Nat.lt_or_ge u level with h6 | h6
    · exact .inr ⟨u, h3, .inl ⟨h6, h5⟩⟩
    · have e : u = level := by omega
      subst e
      exact .inr ⟨u, h3, .inr ⟨rfl, by rw [List.drop_zero]; exact h5⟩⟩
  · rw [List.drop_eq_nil_of_le hk] at h5
    cases h5
/-- All lists are done with. -/
theorem Bq.told {s : Sys} {l : Nat → Nat} {wait : Nat → List Nat} (h : Bq s l wait 0 0 (fun _ _ => True)) : Told s l := by
  refine told_of (fun i _ => h.sound i) h.low fun j i ha hp => ?_
  rcases h.todo j i trivial ha hp with h2 | ⟨u, h3, ⟨h4, _⟩ | ⟨h4, _⟩⟩ <;> omega
/-! ### a field with a rim -/
/-- A cell of the field that is none of the rim. -/
def Inn (p : Nat) : Prop := 2500 ≤ p ∧ p < 322500 ∧ 1 ≤ p / 50 % 50 ∧ p / 50 % 50 ≤ 48 ∧ 1 ≤ p % 50 ∧ p % 50 ≤ 48
def stepI (k : Nat) : Int := if k = 0 then -2500 else if k = 1 then -50 else if k = 2 then -1 else if k = 3 then 1 else if k = 4 then 50 else 2500
def Adj (p q : Nat) : Prop := Inn p ∧ ∃ k, k < 6 ∧ (q : Int) = p + stepI k
theorem stepI_cases (k : Nat) : stepI k = -2500 ∨ stepI k = -50 ∨ stepI k = -1 ∨ stepI k = 1 ∨ stepI k = 50 ∨ stepI k = 2500 := by unfold stepI; split <;> (try split) <;> (try split) <;> (try split) <;> (try split) <;> simp
theorem stepI_inj {a b : Nat} (ha : a < 6) (hb : b < 6) (h : stepI a = stepI b) : a = b := by
  have h1 : ∀ x : Nat, x < 6 → stepI x = [-2500, -50, -1, 1, 50, 2500].getD x 0 := fun x hx => by
    have : x = 0 ∨ x = 1 ∨ x = 2 ∨ x = 3 ∨ x = 4 ∨ x = 5 := by omega
    rcases this with rfl | rfl | rfl | rfl | rfl | rfl <;> rfl
  rw [h1 a ha, h1 b hb] at h
  have h2 : a = 0 ∨ a = 1 ∨ a = 2 ∨ a = 3 ∨ a = 4 ∨ a = 5 := by omega
  have h3 : b = 0 ∨ b = 1 ∨ b = 2 ∨ b = 3 ∨ b = 4 ∨ b = 5 := by omega
  rcases h2 with rfl | rfl | rfl | rfl | rfl | rfl <;> rcases h3 with rfl | rfl | rfl | rfl | rfl | rfl <;> first | rfl | (exact absurd h (by decide))
theorem Inn.step {p : Nat} (h : Inn p) (k : Nat) : ∃ q : Nat, (p : Int) + stepI k = (q : Int) ∧ q < 325000 := by
  obtain ⟨h1, h2, _⟩ := h
  have h3 := stepI_cases k
  refine ⟨((p : Int) + stepI k).toNat, ?_, ?_⟩ <;> omega
/-- What shines in the field, and what light loses there: more than 15 where none comes in. -/
def psys (src loss : Nat → Nat) (hs : ∀ i, src i ≤ 15) (hl : ∀ i, 1 ≤ loss i) : Sys where
  n := 325000
  src := src
  pass i := decide (loss i ≤ 15)
  loss := loss
  adj := Adj
  loss_pos i _ := hl i
  src_le := hs
  adj_lt p q h := by
    obtain ⟨hp, k, _, e⟩ := h
    obtain ⟨r, hr, hlt⟩ := hp.step k
    omega
/-- Light is nowhere but within the rim. -/
theorem lit_inn {src loss : Nat → Nat} {hs : ∀ i, src i ≤ 15} {hl : ∀ i, 1 ≤ loss i} (h1 : ∀ i, 0 < src i → Inn i) (h2 : ∀ i, loss i ≤ 15 → Inn i) {i v : Nat} (h : Lit (psys src loss hs hl) i v) (hv : 0 < v) : Inn i := by
  cases h using Lit.ind with
  | own h => exact h1 i (Nat.lt_of_lt_of_le hv h)
  | comes _ _ hp _ _ => exact h2 i (by have : decide (loss i ≤ 15) = true := hp; simpa using this)
/-! ### the nine chunks' cells within the rim -/
def pad (i : Nat) : Nat := (i / 2304 + 1) * 2500 + (i / 48 % 48 + 1) * 50 + (i % 48 + 1)
theorem pad_of {x z y : Nat} (hx : x < 48) (hz : z < 48) : pad ((y * 48 + z) * 48 + x) = (y + 1) * 2500 + (z + 1) * 50 + (x + 1) := by
  unfold pad
  have h1 : ((y * 48 + z) * 48 + x) / 2304 = y := by omega
  have h2 : ((y * 48 + z) * 48 + x) / 48 % 48 = z := by omega
  have h3 : ((y * 48 + z) * 48 + x) % 48 = x := by omega
  rw [h1, h2, h3]
theorem inn_of {x z y : Nat} (hx : x < 48) (hz : z < 48) (hy : y < 128) : Inn ((y + 1) * 2500 + (z + 1) * 50 + (x + 1)) := by
  unfold Inn
  omega
theorem pad_inn {i : Nat} (h : i < 294912) : Inn (pad i) := by
  unfold pad
  exact inn_of (by omega) (by omega) (by omega)
theorem inn_digits {p : Nat} (h : Inn p) : ∃ x z y, x < 48 ∧ z < 48 ∧ y < 128 ∧ p = (y + 1) * 2500 + (z + 1) * 50 + (x + 1) := by
  obtain ⟨h1, h2, h3, h4, h5, h6⟩ := h
  refine ⟨p % 50 - 1, p / 50 % 50 - 1, p / 2500 - 1, ?_⟩
  omega
theorem inn_pad {p : Nat} (h : Inn p) : ∃ i, i < 294912 ∧ p = pad i := by
  obtain ⟨x, z, y, hx, hz, hy, rfl⟩ := inn_digits h
  exact ⟨(y * 48 + z) * 48 + x, by omega, (pad_of hx hz).symm⟩
theorem pad_inj {i j : Nat} (h : pad i = pad j) : i = j := by
  unfold pad at h
  omega
/-- Cells that touch, and both are within the rim, are neighbours. -/
theorem adj_pad {i j : Nat} (hi : i < 294912) (hj : j < 294912) : Adj (pad i) (pad j) ↔ ∃ w, w < 6 ∧ nbr 48 48 128 i w = some j := by
  obtain ⟨x, z, y, _, _, _, e, hx, hz⟩ := digits 48 48 i (by omega) (by omega)
  obtain ⟨x', z', y', _, _, _, e', hx', hz'⟩ := digits 48 48 j (by omega) (by omega)
  have hy : y < 128 := by omega
  have hy' : y' < 128 := by omega
  have hin := inn_of hx hz hy
  constructor
  · rintro ⟨_, k, _, h⟩
    rw [e, e', pad_of hx hz, pad_of hx' hz'] at h
    rw [e, e']
    have hc := stepI_cases k
    rcases hc with c | c | c | c | c | c <;> rw [c] at h
    · refine ⟨4, by omega, ?_⟩
      have h1 : y' + 1 = y := by omega
      have h2 : z' = z := by omega
      have h3 : x' = x := by omega
      subst h1; subst h2; subst h3
      rw [nbr_of hx hz]; simp
    · refine ⟨2, by omega, ?_⟩
      have h1 : y' = y := by omega
      have h2 : z' + 1 = z := by omega
      have h3 : x' = x := by omega
      subst h1; subst h2; subst h3
      rw [nbr_of hx hz]; simp
    · refine ⟨0, by omega, ?_⟩
      have h1 : y' = y := by omega
      have h2 : z' = z := by omega
      have h3 : x' + 1 = x := by omega
      subst h1; subst h2; subst h3
      rw [nbr_of hx hz]; simp
    · refine ⟨1, by omega, ?_⟩
      have h1 : y' = y := by omega
      have h2 : z' = z := by omega
      have h3 : x' = x + 1 := by omega
      subst h1; subst h2; subst h3
      rw [nbr_of hx hz]; simp [hx']
    · refine ⟨3, by omega, ?_⟩
      have h1 : y' = y := by omega
      have h2 : z' = z + 1 := by omega
      have h3 : x' = x := by omega
      subst h1; subst h2; subst h3
      rw [nbr_of hx hz]; simp [hz']
    · refine ⟨5, by omega, ?_⟩
      have h1 : y' = y + 1 := by omega
      have h2 : z' = z := by omega
      have h3 : x' = x := by omega
      subst h1; subst h2; subst h3
      rw [nbr_of hx hz]; simp [hy']
  · rintro ⟨w, hw, h⟩
    obtain ⟨a, b, c, a', b', c', f, f', ⟨h1, h2, h3⟩, ⟨k1, k2, k3⟩, q⟩ := nbr_digits (by omega) (by omega) hi h
    rw [f, f', pad_of h1 h2, pad_of k1 k2]
    refine ⟨inn_of h1 h2 h3, ?_⟩
    rcases q with ⟨_, e1, e2, e3⟩ | ⟨_, e1, e2, e3⟩ | ⟨_, e1, e2, e3⟩ | ⟨_, e1, e2, e3⟩ | ⟨_, e1, e2, e3⟩ | ⟨_, e1, e2, e3⟩
    · exact ⟨2, by omega, by unfold stepI; simp; omega⟩
    · exact ⟨3, by omega, by unfold stepI; simp; omega⟩
    · exact ⟨1, by omega, by unfold stepI; simp; omega⟩
    · exact ⟨4, by omega, by unfold stepI; simp; omega⟩
    · exact ⟨0, by omega, by unfold stepI; simp; omega⟩
    · exact ⟨5, by omega, by unfold stepI; simp; omega⟩
/-- The light within the rim is the light of the nine chunks. -/
theorem told_pad {src loss : Nat → Nat} {hs : ∀ i, src i ≤ 15} {hl : ∀ i, 1 ≤ loss i} {K : Nat → Int} {S : Nat → Nat} {hS : ∀ i, S i ≤ 15}
    (e1 : ∀ i, i < 294912 → src (pad i) = S i) (e2 : ∀ i, i < 294912 → loss (pad i) = if passK (K i) = true then lossK (K i) else 16)
    {l : Nat → Nat} (h : Told (psys src loss hs hl) l) : Told (fsys 48 48 128 K S hS (by omega) (by omega)) (fun i => l (pad i)) := by
  have hp : ∀ i, i < 294912 → (decide (loss (pad i) ≤ 15) = true ↔ passK (K i) = true) ∧ (passK (K i) = true → loss (pad i) = lossK (K i)) := fun i hi => by
    rw [e2 i hi]
    by_cases q : passK (K i) = true
    · have := pass_loss q
      rw [if_pos q]
      simp [q]; omega
    · rw [if_neg q]; simp [q]
  intro i hi v
  have hi : i < 294912 := hi
  rw [← h (pad i) (by have := pad_inn hi; unfold Inn at this; show pad i < 325000; omega) v]
  constructor
  · intro hL
    have key : ∀ {j u}, Lit (fsys 48 48 128 K S hS (by omega) (by omega)) j u → j < 294912 → Lit (psys src loss hs hl) (pad j) u := by
      intro j u hL
      induction hL using Lit.ind with
      | own hv =>
        intro hj
        refine .own ?_
        show _ ≤ src (pad _)
        rw [e1 _ hj]; exact hv
      | @comes a b u v hj ha hpb hu ih =>
        intro hb
        obtain ⟨ha1, w, hw, hn⟩ := ha
        have ha1 : a < 294912 := ha1
        have hpb' : passK (K b) = true := hpb
        refine .comes (ih ha1) ((adj_pad ha1 hb).2 ⟨w, hw, hn⟩) ((hp b hb).1.2 hpb') ?_
        show v + loss (pad b) ≤ u
        rw [(hp b hb).2 hpb']
        exact hu
    exact key hL hi
  · intro hL
    have key : ∀ {p u}, Lit (psys src loss hs hl) p u → ∀ j, j < 294912 → p = pad j → Lit (fsys 48 48 128 K S hS (by omega) (by omega)) j u := by
      intro p u hL
      induction hL using Lit.ind with
      | own hv =>
        rintro j hj rfl
        refine .own ?_
        show _ ≤ S j
        rw [← e1 _ hj]; exact hv
      | @comes a b u v ha hadj hpb hu ih =>
        rintro j hj rfl
        obtain ⟨i', hi', rfl⟩ := inn_pad hadj.1
        have hpj : passK (K j) = true := (hp j hj).1.1 hpb
        obtain ⟨w, hw, hn⟩ := (adj_pad hi' hj).1 hadj
        refine .comes (ih i' hi' rfl) ⟨hi', w, hw, hn⟩ hpj ?_
        show v + lossK (K j) ≤ u
        rw [← (hp j hj).2 hpj]
        exact hu
    exact key hL i hi rfl
end Go.Proofs.YtjeapaojbkicmabDoor.L
