/-
  Plain: features of origins, what they claim, a chunk with its features.
-/
import Derived.Test.YtbdjgaagafnfaaaRMath
import Derived.Test.YtbdjgaagafnfaaaCPures
set_option maxRecDepth 20000
namespace Go.Proofs.Ytbdjgaagafnfaaa
open R

def absI (n : Int) : Int := if n < 0 then -n else n
theorem absI_le {n m : Int} (h : absI n ≤ m) : -m ≤ n ∧ n ≤ m := by unfold absI at h; split at h <;> omega
theorem absI_pos (n : Int) : 0 ≤ absI n := by unfold absI; split <;> omega
/-- A feature: its sort (0 ruin, 1 lamp, 2 tree), its column, the ground there, its length. -/
structure Thing where
  s : Nat
  x : Int
  z : Int
  h : Int
  l : Int
/-- What a feature puts into a cell of some kind. -/
def clm (t : Thing) (x y z k : Int) : Option Int :=
  if t.s = 0 then
    (if 2 < absI (x - t.x) ∨ 2 < absI (z - t.z) ∨ y - t.h < 0 ∨ 4 < y - t.h then none
    else if y - t.h = 0 then some 12
    else if y - t.h = 4 then some 14
    else if absI (x - t.x) = 2 ∨ absI (z - t.z) = 2 then some 12
    else if absI (x - t.x) = 0 ∧ absI (z - t.z) = 0 ∧ y - t.h = 1 then some 13
    else some 0)
  else if t.s = 1 then
    (if absI (x - t.x) ≠ 0 ∨ absI (z - t.z) ≠ 0 ∨ y - t.h < 1 ∨ 3 < y - t.h then none
    else if y - t.h = 3 then some 13
    else some 10)
  else if k ≠ 0 then none
  else if absI (x - t.x) = 0 ∧ absI (z - t.z) = 0 ∧ 1 ≤ y - t.h ∧ y - t.h ≤ t.l then some 10
  else if absI (x - t.x) ≤ 2 ∧ absI (z - t.z) ≤ 2 ∧ t.l - 1 ≤ y - t.h ∧ absI (x - t.x) + absI (z - t.z) + absI (y - t.h - t.l) ≤ 3 then some 11
  else none
def Made (v : Int) : Prop := v = 0 ∨ v = 10 ∨ v = 11 ∨ v = 12 ∨ v = 13 ∨ v = 14
theorem clm_made {t : Thing} {x y z k v : Int} (h : clm t x y z k = some v) : Made v := by
  unfold clm at h
  unfold Made
  repeat' split at h
  all_goals (first | (cases h; done) | (injection h with h; omega))
theorem clm_near {t : Thing} {x y z k v : Int} (h : clm t x y z k = some v) : (-2 ≤ x - t.x ∧ x - t.x ≤ 2) ∧ (-2 ≤ z - t.z ∧ z - t.z ≤ 2) := by
  have h1 := absI_pos (x - t.x)
  have h2 := absI_pos (z - t.z)
  have h3 : absI (x - t.x) ≤ 2 ∧ absI (z - t.z) ≤ 2 := by
    unfold clm at h
    repeat' split at h
    all_goals (first | (cases h; done) | omega)
  exact ⟨absI_le h3.1, absI_le h3.2⟩
theorem high_tree {a b d l : Int} (hl : 4 ≤ l ∧ l ≤ 7) (h1 : 0 ≤ a) (h2 : 0 ≤ b) (q : a ≤ 2 ∧ b ≤ 2 ∧ l - 1 ≤ d ∧ a + b + absI (d - l) ≤ 3) : 0 ≤ d ∧ d ≤ 11 := by
  have := absI_le (n := d - l) (m := 3) (by omega)
  omega
theorem clm_high {t : Thing} {x y z k v : Int} (hl : 4 ≤ t.l ∧ t.l ≤ 7) (h : clm t x y z k = some v) : 0 ≤ y - t.h ∧ y - t.h ≤ 11 := by
  have h1 := absI_pos (x - t.x)
  have h2 := absI_pos (z - t.z)
  unfold clm at h
  repeat' split at h
  all_goals (first | (cases h; done) | omega | (rename_i q; exact high_tree hl h1 h2 q))
theorem clm_any {t : Thing} {x y z k k' : Int} (h : t.s ≠ 2) (hs : t.s ≤ 2) : clm t x y z k = clm t x y z k' := by
  unfold clm
  by_cases h0 : t.s = 0
  · rw [if_pos h0, if_pos h0]
  · have h1 : t.s = 1 := by omega
    rw [if_neg h0, if_neg h0, if_pos h1, if_pos h1]
theorem clm_tree {t : Thing} {x y z k : Int} (h : t.s = 2) (hk : k ≠ 0) : clm t x y z k = none := by
  unfold clm
  rw [if_neg (by omega), if_neg (by omega), if_pos hk]
theorem clm_tree_made {t : Thing} {x y z k v : Int} (h : t.s = 2) (hc : clm t x y z k = some v) : v = 10 ∨ v = 11 := by
  unfold clm at hc
  rw [if_neg (by omega), if_neg (by omega)] at hc
  repeat' split at hc
  all_goals (first | (cases hc; done) | (injection hc with hc; omega))
/-! ### the first that claims -/
def fst (x y z k : Int) (l : List Thing) : Option Int := l.findSome? fun t => clm t x y z k
def pickT (x y z k : Int) (l : List Thing) : Int := (fst x y z k l).getD k
theorem fst_nil (x y z k : Int) : fst x y z k [] = none := rfl
theorem fst_cons (x y z k : Int) (t : Thing) (l : List Thing) : fst x y z k (t :: l) = (clm t x y z k).or (fst x y z k l) := by
  unfold fst
  rw [List.findSome?_cons]
  cases clm t x y z k <;> rfl
theorem fst_append (x y z k : Int) (l m : List Thing) : fst x y z k (l ++ m) = (fst x y z k l).or (fst x y z k m) := List.findSome?_append
theorem fst_some {x y z k v : Int} {l : List Thing} (h : fst x y z k l = some v) : ∃ t ∈ l, clm t x y z k = some v := List.exists_of_findSome?_eq_some h
theorem pick_cons (x y z k : Int) (t : Thing) (l : List Thing) : pickT x y z k (t :: l) = match clm t x y z k with | some v => v | none => pickT x y z k l := by
  unfold pickT
  rw [fst_cons]
  cases clm t x y z k <;> rfl
theorem pick_made {x y z k : Int} {l : List Thing} (h : pickT x y z k l ≠ k) : Made (pickT x y z k l) := by
  unfold pickT at h ⊢
  rcases e : fst x y z k l with _ | v
  · rw [e] at h; exact absurd rfl h
  · obtain ⟨t, _, hc⟩ := fst_some e
    exact clm_made hc
theorem pick_kind {x y z k : Int} {l : List Thing} (h : 0 ≤ k ∧ k ≤ 16) : 0 ≤ pickT x y z k l ∧ pickT x y z k l ≤ 16 := by
  by_cases e : pickT x y z k l = k
  · rw [e]; exact h
  · have := pick_made e
    unfold Made at this
    omega
theorem fst_any {x y z k k' : Int} : ∀ {l : List Thing}, (∀ t ∈ l, t.s < 2) → fst x y z k l = fst x y z k' l
  | [], _ => rfl
  | t :: l, h => by
    have ht := h t List.mem_cons_self
    rw [fst_cons, fst_cons, clm_any (k := k) (k' := k') (by omega) (by omega), fst_any (fun t ht => h t (List.mem_cons_of_mem _ ht))]
theorem fst_trees {x y z k : Int} : ∀ {l : List Thing}, (∀ t ∈ l, t.s = 2) → k ≠ 0 → fst x y z k l = none
  | [], _, _ => rfl
  | t :: l, h, hk => by
    rw [fst_cons, clm_tree (h t List.mem_cons_self) hk, fst_trees (fun t ht => h t (List.mem_cons_of_mem _ ht)) hk]
    rfl
/-- Built again it stays as it is. -/
theorem pick_twice {x y z k : Int} {A B : List Thing} (hA : ∀ t ∈ A, t.s < 2) (hB : ∀ t ∈ B, t.s = 2) : pickT x y z (pickT x y z k (A ++ B)) (A ++ B) = pickT x y z k (A ++ B) := by
  obtain ⟨r, hr⟩ : ∃ r, pickT x y z k (A ++ B) = r := ⟨_, rfl⟩
  rw [hr]
  unfold pickT at hr ⊢
  rw [fst_append] at hr ⊢
  rw [fst_any (k := r) (k' := k) hA]
  rcases ea : fst x y z k A with _ | v
  · rw [ea] at hr
    simp only [Option.none_or] at hr ⊢
    by_cases hk : k = 0
    · rcases eb : fst x y z k B with _ | v
      · rw [eb] at hr
        have : r = k := hr.symm
        rw [this, eb]
        rfl
      · rw [eb] at hr
        have hv : r = v := hr.symm
        obtain ⟨t, ht, hc⟩ := fst_some eb
        have := clm_tree_made (hB t ht) hc
        rw [fst_trees hB (by omega)]
        rfl
    · rw [fst_trees hB hk] at hr
      have : r = k := hr.symm
      rw [this, fst_trees hB hk]
      rfl
  · rw [ea] at hr
    exact hr
/-! ### features of origins -/
def stg (s : Nat) : Int := if s = 0 then 41 else if s = 1 then 42 else 40
def side (s : Nat) : Int := if s = 0 then 32 else if s = 1 then 16 else 8
def some_ (s : Nat) : Int := if s = 0 then 35 else if s = 1 then 20 else 70
def hT (S s : Nat) (ox oz : Int) : Nat := hashN S (stg s) ox 0 oz
def colX (s : Nat) (h : Nat) (o : Int) : Int := if s = 0 then 32 * o + ((h / 256 % 16 : Nat) : Int) + 8 else if s = 1 then 16 * o + ((h / 256 % 16 : Nat) : Int) else 8 * o + ((h / 256 % 8 : Nat) : Int)
def colZ (s : Nat) (h : Nat) (o : Int) : Int := if s = 0 then 32 * o + ((h / 4096 % 16 : Nat) : Int) + 8 else if s = 1 then 16 * o + ((h / 4096 % 16 : Nat) : Int) else 8 * o + ((h / 2048 % 8 : Nat) : Int)
def lenT (h : Nat) : Int := 4 + ((h / 65536 % 4 : Nat) : Int)
/-- The ground's number of a column among nine chunks'. -/
def gAt (cx cz : Int) (ls : List (List Int)) (x z : Int) : Int := (ls.getD ((z / 16 - cz + 1) * 3 + (x / 16 - cx + 1)).toNat []).getD (z % 16 * 16 + x % 16).toNat 0
def nearB (cx cz x z : Int) : Bool := decide (0 ≤ x / 16 - cx + 1 ∧ x / 16 - cx + 1 ≤ 2 ∧ 0 ≤ z / 16 - cz + 1 ∧ z / 16 - cz + 1 ≤ 2)
def standB (s h : Nat) (high band : Int) : Bool := if s = 0 then true else if s = 1 then decide (band = 0) else decide (44 ≤ high ∧ (band = 1 ∨ (band = 0 ∧ h / 16384 % 4 = 0)))
def thingH (s h : Nat) (cx cz : Int) (hs bs : List (List Int)) (ox oz : Int) : Option Thing :=
  if (decide (belowN h 100 < some_ s) && nearB cx cz (colX s h ox) (colZ s h oz) && standB s h (gAt cx cz hs (colX s h ox) (colZ s h oz)) (gAt cx cz bs (colX s h ox) (colZ s h oz))) = true
  then some ⟨s, colX s h ox, colZ s h oz, gAt cx cz hs (colX s h ox) (colZ s h oz), lenT h⟩ else none
def thingN (S s : Nat) (cx cz : Int) (hs bs : List (List Int)) (ox oz : Int) : Option Thing := thingH s (hT S s ox oz) cx cz hs bs ox oz
theorem thing_is {s h : Nat} {cx cz : Int} {hs bs : List (List Int)} {ox oz : Int} {t : Thing} (e : thingH s h cx cz hs bs ox oz = some t) :
    t = ⟨s, colX s h ox, colZ s h oz, gAt cx cz hs (colX s h ox) (colZ s h oz), lenT h⟩ ∧ belowN h 100 < some_ s ∧ nearB cx cz (colX s h ox) (colZ s h oz) = true ∧ standB s h (gAt cx cz hs (colX s h ox) (colZ s h oz)) (gAt cx cz bs (colX s h ox) (colZ s h oz)) = true := by
  unfold thingH at e
  split at e
  · rename_i hc
    simp only [Bool.and_eq_true, decide_eq_true_eq] at hc
    injection e with e
    exact ⟨e.symm, hc.1.1, hc.1.2, hc.2⟩
  · cases e
theorem lenT_bd (h : Nat) : 4 ≤ lenT h ∧ lenT h ≤ 7 := by unfold lenT; omega
theorem colX_bd (s h : Nat) (o : Int) : side s * o ≤ colX s h o ∧ colX s h o < side s * o + side s := by unfold colX side; split <;> (try split) <;> omega
theorem colZ_bd (s h : Nat) (o : Int) : side s * o ≤ colZ s h o ∧ colZ s h o < side s * o + side s := by unfold colZ side; split <;> (try split) <;> omega
theorem side_cases (s : Nat) : side s = 32 ∨ side s = 16 ∨ side s = 8 := by unfold side; split <;> (try split) <;> simp
/-! ### rows of origins -/
def rowT (f : Int → List Thing) (lo : Int) : Nat → List Thing
  | 0 => []
  | n + 1 => rowT f lo n ++ f (lo + (n : Int))
theorem row_mem {f : Int → List Thing} {lo : Int} {t : Thing} : ∀ {n : Nat}, t ∈ rowT f lo n → ∃ i : Nat, i < n ∧ t ∈ f (lo + (i : Int))
  | 0, h => by cases h
  | n + 1, h => by
    rcases List.mem_append.1 h with h | h
    · obtain ⟨i, hi, ht⟩ := row_mem h
      exact ⟨i, by omega, ht⟩
    · exact ⟨n, by omega, h⟩
theorem mem_row {f : Int → List Thing} {lo : Int} {t : Thing} : ∀ {n i : Nat}, i < n → t ∈ f (lo + (i : Int)) → t ∈ rowT f lo n
  | 0, _, h, _ => by omega
  | n + 1, i, h, ht => by
    by_cases e : i = n
    · subst e; exact List.mem_append.2 (.inr ht)
    · exact List.mem_append.2 (.inl (mem_row (by omega) ht))
theorem row_same {x y z k : Int} {f f' : Int → List Thing} {lo : Int} (h : ∀ o, fst x y z k (f o) = fst x y z k (f' o)) : ∀ n, fst x y z k (rowT f lo n) = fst x y z k (rowT f' lo n)
  | 0 => rfl
  | n + 1 => by
    unfold rowT
    rw [fst_append, fst_append, row_same h n, h]
def lo (s : Nat) (c : Int) : Int := (c * 16 - 2) / side s
def many (s : Nat) (c : Int) : Nat := ((c * 16 + 17) / side s - (c * 16 - 2) / side s + 1).toNat
def sortT (S : Nat) (cx cz : Int) (hs bs : List (List Int)) (s : Nat) : List Thing :=
  rowT (fun oz => rowT (fun ox => (thingN S s cx cz hs bs ox oz).toList) (lo s cx) (many s cx)) (lo s cz) (many s cz)
def things (S : Nat) (cx cz : Int) (hs bs : List (List Int)) : List Thing := (sortT S cx cz hs bs 0 ++ sortT S cx cz hs bs 1) ++ sortT S cx cz hs bs 2
theorem sort_mem {S : Nat} {cx cz : Int} {hs bs : List (List Int)} {s : Nat} {t : Thing} (h : t ∈ sortT S cx cz hs bs s) : ∃ ox oz : Int, thingN S s cx cz hs bs ox oz = some t := by
  obtain ⟨i, _, h⟩ := row_mem h
  obtain ⟨j, _, h⟩ := row_mem h
  exact ⟨_, _, Option.mem_toList.1 h⟩
theorem sort_s {S : Nat} {cx cz : Int} {hs bs : List (List Int)} {s : Nat} {t : Thing} (h : t ∈ sortT S cx cz hs bs s) : t.s = s := by
  obtain ⟨ox, oz, e⟩ := sort_mem h
  rw [(thing_is e).1]
theorem things_mem {S : Nat} {cx cz : Int} {hs bs : List (List Int)} {t : Thing} (h : t ∈ things S cx cz hs bs) : ∃ (s : Nat) (ox oz : Int), s < 3 ∧ thingN S s cx cz hs bs ox oz = some t := by
  unfold things at h
  rcases List.mem_append.1 h with h | h
  · rcases List.mem_append.1 h with h | h
    · obtain ⟨ox, oz, e⟩ := sort_mem h; exact ⟨0, ox, oz, by omega, e⟩
    · obtain ⟨ox, oz, e⟩ := sort_mem h; exact ⟨1, ox, oz, by omega, e⟩
  · obtain ⟨ox, oz, e⟩ := sort_mem h; exact ⟨2, ox, oz, by omega, e⟩
theorem div_side (s : Nat) (o x : Int) (h : side s * o ≤ x ∧ x < side s * o + side s) : x / side s = o := by
  rcases side_cases s with e | e | e <;> rw [e] at h ⊢ <;> omega
theorem div_mono (s : Nat) {x y : Int} (h : x ≤ y) : x / side s ≤ y / side s := by
  rcases side_cases s with e | e | e <;> rw [e] <;> omega
/-- An origin's feature whose column is at most two away is among a chunk's. -/
theorem mem_things {S s : Nat} {cx cz : Int} {hs bs : List (List Int)} {ox oz : Int} {t : Thing} (hs3 : s < 3) (e : thingN S s cx cz hs bs ox oz = some t) (hx : cx * 16 - 2 ≤ t.x ∧ t.x ≤ cx * 16 + 17) (hz : cz * 16 - 2 ≤ t.z ∧ t.z ≤ cz * 16 + 17) : t ∈ things S cx cz hs bs := by
  have hm : t ∈ sortT S cx cz hs bs s := by
    have ht := (thing_is e).1
    have e1 : t.x = colX s (hT S s ox oz) ox := by rw [ht]
    have e2 : t.z = colZ s (hT S s ox oz) oz := by rw [ht]
    have d1 := div_side s ox _ (colX_bd s (hT S s ox oz) ox)
    have d2 := div_side s oz _ (colZ_bd s (hT S s ox oz) oz)
    rw [← e1] at d1
    rw [← e2] at d2
    have m1 := div_mono s hx.1
    have m2 := div_mono s hx.2
    have m3 := div_mono s hz.1
    have m4 := div_mono s hz.2
    rw [d1] at m1 m2
    rw [d2] at m3 m4
    refine mem_row (i := (oz - lo s cz).toNat) (by unfold lo many; omega) ?_
    rw [show lo s cz + (((oz - lo s cz).toNat : Nat) : Int) = oz by unfold lo; omega]
    refine mem_row (i := (ox - lo s cx).toNat) (by unfold lo many; omega) ?_
    rw [show lo s cx + (((ox - lo s cx).toNat : Nat) : Int) = ox by unfold lo; omega]
    exact Option.mem_toList.2 e
  unfold things
  rcases s with _ | _ | _ | s
  · exact List.mem_append.2 (.inl (List.mem_append.2 (.inl hm)))
  · exact List.mem_append.2 (.inl (List.mem_append.2 (.inr hm)))
  · exact List.mem_append.2 (.inr hm)
  · omega
/-! ### a chunk with its features (P17.1) -/
def buildAt (S : Nat) (cx cz : Int) (hs bs : List (List Int)) (cs : List Int) (j : Nat) : Int := pickT (cx * 16 + (j : Int) % 16) ((j : Int) / 256) (cz * 16 + (j : Int) / 16 % 16) (cs.getD j 0) (things S cx cz hs bs)
def buildN (S : Nat) (cx cz : Int) (hs bs : List (List Int)) (cs : List Int) : List Int := (List.range 32768).map (buildAt S cx cz hs bs cs)
theorem range_getI (f : Nat → Int) (n j : Nat) (h : j < n) : ((List.range n).map f).getD j 0 = f j := by
  rw [List.getD_eq_getElem?_getD, List.getElem?_map, List.getElem?_range h]
  rfl
theorem range_congr {f g : Nat → Int} (n : Nat) (h : ∀ i, i < n → f i = g i) : (List.range n).map f = (List.range n).map g := List.map_congr_left fun i hi => h i (List.mem_range.1 hi)
theorem range_len (f : Nat → Int) (n : Nat) : ((List.range n).map f).length = n := by simp
theorem buildN_len (S : Nat) (cx cz : Int) (hs bs : List (List Int)) (cs : List Int) : (buildN S cx cz hs bs cs).length = 32768 := range_len _ 32768
theorem buildN_at (S : Nat) (cx cz : Int) (hs bs : List (List Int)) (cs : List Int) (j : Nat) (h : j < 32768) : (buildN S cx cz hs bs cs).getD j 0 = buildAt S cx cz hs bs cs j := range_getI _ 32768 j h
theorem build_kinds {S : Nat} {cx cz : Int} {hs bs : List (List Int)} {cs : List Int} (hk : C.Kinds cs) : C.Kinds (buildN S cx cz hs bs cs) := fun x hx => by
  unfold buildN at hx
  obtain ⟨i, _, rfl⟩ := List.mem_map.1 hx
  exact pick_kind (hk.at i)
theorem build_made {S : Nat} {cx cz : Int} {hs bs : List (List Int)} {cs : List Int} {j : Nat} (hj : j < 32768) (h : (buildN S cx cz hs bs cs).getD j 0 ≠ cs.getD j 0) : Made ((buildN S cx cz hs bs cs).getD j 0) := by
  rw [buildN_at _ _ _ _ _ _ _ hj] at h ⊢
  exact pick_made h
/-- Built again it stays as it is. -/
theorem build_twice (S : Nat) (cx cz : Int) (hs bs : List (List Int)) (cs : List Int) : buildN S cx cz hs bs (buildN S cx cz hs bs cs) = buildN S cx cz hs bs cs := by
  have h : ∀ i, i < 32768 → buildAt S cx cz hs bs (buildN S cx cz hs bs cs) i = buildAt S cx cz hs bs cs i := fun i hi => by
    unfold buildAt
    rw [buildN_at _ _ _ _ _ _ _ hi]
    unfold buildAt things
    exact pick_twice (fun t ht => by
      rcases List.mem_append.1 ht with ht | ht
      · rw [sort_s ht]; omega
      · rw [sort_s ht]; omega) fun t ht => sort_s ht
  exact range_congr 32768 h
/-- The ground of columns more than two away changes nothing (P17.2). -/
theorem build_near {S : Nat} {cx cz : Int} {hs bs hs' bs' : List (List Int)} {cs : List Int}
    (h : ∀ x z : Int, cx * 16 - 2 ≤ x ∧ x ≤ cx * 16 + 17 → cz * 16 - 2 ≤ z ∧ z ≤ cz * 16 + 17 → gAt cx cz hs x z = gAt cx cz hs' x z ∧ gAt cx cz bs x z = gAt cx cz bs' x z) : buildN S cx cz hs bs cs = buildN S cx cz hs' bs' cs := by
  have hj : ∀ i, i < 32768 → buildAt S cx cz hs bs cs i = buildAt S cx cz hs' bs' cs i := fun i hi => by
    unfold buildAt
    obtain ⟨x, hx⟩ : ∃ x : Int, cx * 16 + (i : Int) % 16 = x := ⟨_, rfl⟩
    obtain ⟨z, hz⟩ : ∃ z : Int, cz * 16 + (i : Int) / 16 % 16 = z := ⟨_, rfl⟩
    have bx : cx * 16 ≤ x ∧ x ≤ cx * 16 + 15 := by omega
    have bz : cz * 16 ≤ z ∧ z ≤ cz * 16 + 15 := by omega
    rw [hx, hz]
    clear hx hz
    generalize (i : Int) / 256 = y
    generalize cs.getD i 0 = k
    have one : ∀ (s : Nat) (ox oz : Int), fst x y z k (thingN S s cx cz hs bs ox oz).toList = fst x y z k (thingN S s cx cz hs' bs' ox oz).toList := fun s ox oz => by
      unfold thingN
      generalize hT S s ox oz = hh
      by_cases hn : (cx * 16 - 2 ≤ colX s hh ox ∧ colX s hh ox ≤ cx * 16 + 17) ∧ cz * 16 - 2 ≤ colZ s hh oz ∧ colZ s hh oz ≤ cz * 16 + 17
      · obtain ⟨e1, e2⟩ := h _ _ hn.1 hn.2
        unfold thingH
        rw [e1, e2]
      · have no : ∀ {hs bs : List (List Int)}, fst x y z k (thingH s hh cx cz hs bs ox oz).toList = none := fun {hs bs} => by
          rcases e : thingH s hh cx cz hs bs ox oz with _ | t
          · rfl
          · have ht := (thing_is e).1
            rcases ec : clm t x y z k with _ | v
            · show fst x y z k [t] = none
              rw [fst_cons, ec]
              rfl
            · exfalso
              have := clm_near ec
              rw [ht] at this
              simp only [] at this
              apply hn
              omega
        rw [no, no]
    have srt : ∀ s, fst x y z k (sortT S cx cz hs bs s) = fst x y z k (sortT S cx cz hs' bs' s) := fun s => row_same (fun oz => row_same (fun ox => one s ox oz) _) _
    unfold pickT things
    rw [fst_append, fst_append, fst_append, fst_append, srt 0, srt 1, srt 2]
  exact range_congr 32768 hj
end Go.Proofs.Ytbdjgaagafnfaaa