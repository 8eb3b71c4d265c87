/-
  Plain mathematics for the layer journal: groups of blocks, what is wrong with one, a disk behind one; no program is named here.
  Plain mathematics: four whole numbers as a block of 32 bytes, and back; the sum of bytes; no program is named here.
  Plain mathematics: the journal's file: notes, a head; disks that Open takes on; no program is named here.
-/
import Derived.Test.YtjkeejbfipmidaaDisk
namespace Go.Proofs.Ytjkeejbfipmidaa
section
/-- A block that may not be written by a group. -/
def badB (b : Bk) : Bool := decide (b.f.1 = 1 ∨ b.i < 0 ∨ 4096 ≤ b.i ∨ b.b.length ≠ 32)
/-- What is wrong with a group? -/
def may (l : List Bk) : Int := if l.any badB then 1 else if 256 < l.length then 7 else 0
/-- Blocks behind a group. -/
def doAll (V l : List Bk) : List Bk := l.foldl (fun V b => put V b.f b.i b.b) V
/-- A disk behind writes. -/
def St.doAll (S : St) (l : List Bk) : St := l.foldl (fun S b => (S.write b.f b.i b.b).2) S
theorem badB_false {b : Bk} : badB b = false ↔ b.f.1 ≠ 1 ∧ argOk b.i b.b.length := by
  unfold badB argOk
  rw [decide_eq_false_iff_not]
  omega
theorem may_ok {l : List Bk} : may l = 0 ↔ (∀ b ∈ l, badB b = false) ∧ l.length ≤ 256 := by
  unfold may
  cases h : l.any badB with
  | true =>
    simp only [if_true]
    refine ⟨fun h => by omega, fun ⟨h1, _⟩ => ?_⟩
    obtain ⟨b, hb, hx⟩ := List.any_eq_true.1 h
    rw [h1 b hb] at hx
    cases hx
  | false =>
    have h1 : ∀ b ∈ l, badB b = false := by
      intro b hb
      cases hx : badB b with
      | false => rfl
      | true => rw [List.any_eq_true.2 ⟨b, hb, hx⟩] at h; cases h
    simp only [Bool.false_eq_true, if_false]
    by_cases h2 : 256 < l.length
    · rw [if_pos h2]
      exact ⟨fun h => by omega, fun ⟨_, h⟩ => by omega⟩
    · rw [if_neg h2]
      exact ⟨fun _ => ⟨h1, by omega⟩, fun _ => rfl⟩
theorem may_is (l : List Bk) : may l = 0 ∨ may l = 1 ∨ may l = 7 := by
  unfold may
  split
  · exact Or.inr (Or.inl rfl)
  · split
    · exact Or.inr (Or.inr rfl)
    · exact Or.inl rfl
theorem St.doAll_snoc (S : St) (l : List Bk) (b : Bk) : S.doAll (l ++ [b]) = ((S.doAll l).write b.f b.i b.b).2 := by
  unfold St.doAll
  rw [List.foldl_append]
  rfl
theorem St.doAll_take (S : St) (l : List Bk) (j : Nat) (h : j < l.length) : S.doAll (l.take (j + 1)) = ((S.doAll (l.take j)).write l[j].f l[j].i l[j].b).2 := by
  rw [List.take_succ_eq_append_getElem h, St.doAll_snoc]
/-- A disk that no power cuts off. -/
def St.free (S : St) : Prop := S.out = false ∧ S.armed = false
theorem St.free.write {S : St} (h : S.free) (f : Fl) (i : Int) (b : List Int) : (S.write f i b).2.free := by
  obtain ⟨h1, h2⟩ := h
  unfold St.write
  split
  · rw [h1]
    exact ⟨by simp [St.wrote, h2], h2⟩
  · exact ⟨h1, h2⟩
theorem St.free.doAll {S : St} (h : S.free) (l : List Bk) : (S.doAll l).free := by
  induction l generalizing S with
  | nil => exact h
  | cons b r ih => exact ih (h.write b.f b.i b.b)
theorem St.doAll_l {S : St} (h : S.free) {l : List Bk} (hl : ∀ b ∈ l, badB b = false) : (S.doAll l).l = Go.Proofs.Ytjkeejbfipmidaa.doAll S.l l := by
  induction l generalizing S with
  | nil => rfl
  | cons b r ih =>
    have hb := badB_false.1 (hl b (List.mem_cons_self ..))
    show (St.doAll (S.write b.f b.i b.b).2 r).l = Go.Proofs.Ytjkeejbfipmidaa.doAll (put S.l b.f b.i b.b) r
    rw [ih (h.write _ _ _) (fun x hx => hl x (List.mem_cons_of_mem _ hx))]
    congr 1
    unfold St.write
    rw [if_pos hb.2, h.1]
    rfl
/-- At most so many more blocks and writes. -/
theorem write_few (S : St) (f : Fl) (i : Int) (b : List Int) : (S.write f i b).2.l.length ≤ S.l.length + 1 ∧ (S.write f i b).2.writes ≤ S.writes + 1 := by
  unfold St.write
  split
  · split
    · exact ⟨by simp, by simp only; omega⟩
    · exact ⟨put_len _ _ _ _, Int.le_refl _⟩
  · exact ⟨by simp, by simp only; omega⟩
theorem doAll_few (S : St) (l : List Bk) : (S.doAll l).l.length ≤ S.l.length + l.length ∧ (S.doAll l).writes ≤ S.writes + l.length := by
  induction l generalizing S with
  | nil => exact ⟨Nat.le_refl _, by simp [St.doAll]⟩
  | cons b r ih =>
    have h1 := write_few S b.f b.i b.b
    have h2 := ih (S.write b.f b.i b.b).2
    have e : St.doAll S (b :: r) = St.doAll (S.write b.f b.i b.b).2 r := rfl
    rw [e]
    simp only [List.length_cons]
    omega
end
section
/-- A byte of a number. -/
def byteAt (x : Int) (m : Nat) : Int := x / 256 ^ m % 256
/-- Four numbers as bytes. -/
def rowB (r : List Int) : List Int := (List.range 32).map fun i => byteAt (r.getD (i / 8) 0) (i % 8)
/-- The lowest m bytes of the number k, as a sum. -/
def part (bs : List Int) (k : Nat) : Nat → Int
  | 0 => 0
  | m + 1 => part bs k m + bs.getD (8 * k + m) 0 * 256 ^ m
/-- A number of 64 bits with its sign. -/
def sg (x : Int) : Int := (x + 9223372036854775808) % 18446744073709551616 - 9223372036854775808
def rowI (bs : List Int) : List Int := [sg (part bs 0 8), sg (part bs 1 8), sg (part bs 2 8), sg (part bs 3 8)]
theorem byteAt_bd (x : Int) (m : Nat) : 0 ≤ byteAt x m ∧ byteAt x m ≤ 255 := by unfold byteAt; omega
theorem rowB_len (r : List Int) : (rowB r).length = 32 := by simp [rowB]
theorem rowB_fit (r : List Int) : ∀ z ∈ rowB r, 0 ≤ z ∧ z ≤ 255 := by
  intro z hz
  obtain ⟨i, _, rfl⟩ := List.mem_map.1 hz
  exact byteAt_bd _ _
theorem rowB_at (r : List Int) {i : Nat} (h : i < 32) : (rowB r).getD i 0 = byteAt (r.getD (i / 8) 0) (i % 8) := by
  rw [List.getD_eq_getElem?_getD, List.getElem?_eq_getElem (by rw [rowB_len]; exact h)]
  simp [rowB]
theorem emod_mul_ (x a b : Int) (ha : 0 < a) (hb : 0 < b) : x % (a * b) = x % a + x / a % b * a := by
  have h1 := Int.emod_add_mul_ediv x a
  have h2 := Int.emod_add_mul_ediv (x / a) b
  have h3 := Int.emod_nonneg x (by omega : a ≠ 0)
  have h4 := Int.emod_lt_of_pos x ha
  have h5 := Int.emod_nonneg (x / a) (by omega : b ≠ 0)
  have h6 := Int.emod_lt_of_pos (x / a) hb
  have e : x = (x % a + x / a % b * a) + (a * b) * (x / a / b) := by
    have h10 : a * (x / a) = a * (x / a % b) + a * (b * (x / a / b)) := by rw [← Int.mul_add, h2]
    rw [Int.mul_assoc a b, Int.mul_comm (x / a % b) a]
    omega
  have h7 : x / a % b * a ≤ (b - 1) * a := Int.mul_le_mul_of_nonneg_right (by omega) (by omega)
  have h8 : (b - 1) * a = a * b - a := by rw [Int.sub_mul, Int.mul_comm b a]; omega
  have h9 : 0 ≤ x / a % b * a := Int.mul_nonneg h5 (by omega)
  generalize x / a % b * a = u at *
  generalize x % a = v at *
  rw [e, Int.add_mul_emod_self_left]
  exact Int.emod_eq_of_lt (by omega) (by omega)
theorem part_eq {bs : List Int} {k : Nat} {x : Int} : ∀ m, m ≤ 8 → (∀ j, j < 8 → bs.getD (8 * k + j) 0 = byteAt x j) → part bs k m = x % 256 ^ m
  | 0, _, _ => by simp [part]
  | m + 1, hm, h => by
    rw [part, part_eq m (by omega) h, h m (by omega), Int.pow_succ, emod_mul_ x (256 ^ m) 256 (Int.pow_pos (by omega)) (by omega)]
    rfl
theorem sg_id {x : Int} (h1 : -9223372036854775808 ≤ x) (h2 : x ≤ 9223372036854775807) : sg (x % 256 ^ 8) = x := by
  unfold sg
  have : (256 : Int) ^ 8 = 18446744073709551616 := by decide
  rw [this]
  omega
theorem rowI_rowB {a b c d : Int} (ha : -9223372036854775808 ≤ a ∧ a ≤ 9223372036854775807) (hb : -9223372036854775808 ≤ b ∧ b ≤ 9223372036854775807) (hc : -9223372036854775808 ≤ c ∧ c ≤ 9223372036854775807) (hd : -9223372036854775808 ≤ d ∧ d ≤ 9223372036854775807) : rowI (rowB [a, b, c, d]) = [a, b, c, d] := by
  have key : ∀ k, k < 4 → part (rowB [a, b, c, d]) k 8 = ([a, b, c, d] : List Int).getD k 0 % 256 ^ 8 := fun k hk => part_eq 8 (Nat.le_refl _) (fun j hj => by
    rw [rowB_at _ (by omega), show (8 * k + j) / 8 = k by omega, show (8 * k + j) % 8 = j by omega])
  unfold rowI
  rw [key 0 (by decide), key 1 (by decide), key 2 (by decide), key 3 (by decide)]
  show [sg (a % 256 ^ 8), sg (b % 256 ^ 8), sg (c % 256 ^ 8), sg (d % 256 ^ 8)] = _
  rw [sg_id ha.1 ha.2, sg_id hb.1 hb.2, sg_id hc.1 hc.2, sg_id hd.1 hd.2]
theorem sg_bd (x : Int) : -9223372036854775808 ≤ sg x ∧ sg x ≤ 9223372036854775807 := by unfold sg; omega
theorem part_bd {bs : List Int} (h : ∀ z ∈ bs, 0 ≤ z ∧ z ≤ 255) (k : Nat) : ∀ m, 0 ≤ part bs k m ∧ part bs k m < 256 ^ m
  | 0 => by simp [part]
  | m + 1 => by
    have h1 := part_bd h k m
    have h2 : 0 ≤ bs.getD (8 * k + m) 0 ∧ bs.getD (8 * k + m) 0 ≤ 255 := by
      rw [List.getD_eq_getElem?_getD]
      cases e : bs[8 * k + m]? with
      | none => exact ⟨by decide, by decide⟩
      | some z => exact h z (List.mem_of_getElem? e)
    have h3 : (0 : Int) < 256 ^ m := Int.pow_pos (by omega)
    have h4 : 0 ≤ bs.getD (8 * k + m) 0 * 256 ^ m := Int.mul_nonneg h2.1 (by omega)
    have h5 : bs.getD (8 * k + m) 0 * 256 ^ m ≤ 255 * 256 ^ m := Int.mul_le_mul_of_nonneg_right h2.2 (by omega)
    rw [part, Int.pow_succ]
    omega
/-- No bytes but noughts. -/
def noughts : List Int := List.replicate 32 0
theorem rowI_noughts : rowI noughts = [0, 0, 0, 0] := by decide
theorem rowB_noughts : rowB [0, 0, 0, 0] = noughts := by decide

/-! ### the sum -/
def fnv (x c : Int) : Int := ((x.toNat ^^^ c.toNat : Nat) : Int) * 16777619 % 4294967296
def sumL (zs : List Int) : Int := zs.foldl fnv 2166136261
theorem fnv_bd (x c : Int) : 0 ≤ fnv x c ∧ fnv x c ≤ 4294967295 := by unfold fnv; omega
theorem foldl_bd (zs : List Int) (x : Int) (h : 0 ≤ x ∧ x ≤ 4294967295) : 0 ≤ zs.foldl fnv x ∧ zs.foldl fnv x ≤ 4294967295 := by
  induction zs generalizing x with
  | nil => exact h
  | cons z r ih => exact ih _ (fnv_bd x z)
theorem sumL_bd (zs : List Int) : 0 ≤ sumL zs ∧ sumL zs ≤ 4294967295 := foldl_bd zs _ (by omega)
theorem sumL_succ (zs : List Int) (k : Nat) (hk : k < zs.length) : sumL (zs.take (k + 1)) = fnv (sumL (zs.take k)) zs[k] := by
  unfold sumL
  rw [List.take_succ_eq_append_getElem hk, List.foldl_append]
  rfl
end
section
/-- The journal's file. -/
abbrev J0 : Fl := (1, 0, 0)
/-- Where a block goes, as bytes. -/
def whereB (b : Bk) : List Int := rowB [b.f.1, b.f.2.1, b.f.2.2, b.i]
/-- The notes of a group, from the k-th block on. -/
def notesL : List Bk → Nat → List Bk
  | [], _ => []
  | b :: r, k => ⟨J0, 1 + 2 * (k : Int), whereB b⟩ :: ⟨J0, 2 + 2 * (k : Int), b.b⟩ :: notesL r (k + 1)
def noteBytes (l : List Bk) : List Int := l.flatMap (·.b)
def headB (l : List Bk) : List Int := rowB [(l.length : Int), sumL (noteBytes (notesL l 0)), 0, 0]
def headK (l : List Bk) : Bk := ⟨J0, 0, headB l⟩
def endK : Bk := ⟨J0, 0, noughts⟩
/-- All that a group writes. -/
def groupAll (l : List Bk) : List Bk := notesL l 0 ++ headK l :: (l ++ [endK])
def BkOk (b : Bk) : Prop := (-9223372036854775808 ≤ b.f.1 ∧ b.f.1 ≤ 9223372036854775807) ∧ (-9223372036854775808 ≤ b.f.2.1 ∧ b.f.2.1 ≤ 9223372036854775807) ∧ (-9223372036854775808 ≤ b.f.2.2 ∧ b.f.2.2 ≤ 9223372036854775807) ∧ (-9223372036854775808 ≤ b.i ∧ b.i ≤ 9223372036854775807)
/-- What stands in the head's block. -/
def hdB (L : List Bk) : List Int := (has L J0 0).getD noughts
/-- Blocks that show V besides the journal's file. -/
def Shows (L V : List Bk) : Prop := (∀ f i, f.1 ≠ 1 → has L f i = has V f i) ∧ ∀ b ∈ L, b.f.1 = 1 → b.f = (1, 0, 0)
/-- No group is under way. -/
def Idle (L V : List Bk) : Prop := hdB L = noughts ∧ Shows L V
/-- A group is under way: its head and its notes stand. -/
structure Pend (L l : List Bk) : Prop where
  pos : l ≠ []
  len : l.length ≤ 256
  good : ∀ b ∈ l, badB b = false
  ok : ∀ b ∈ l, BkOk b
  head : has L J0 0 = some (headB l)
  notes : ∀ k (h : k < l.length), has L J0 (1 + 2 * (k : Int)) = some (whereB l[k]) ∧ has L J0 (2 + 2 * (k : Int)) = some l[k].b
def RecL (L V : List Bk) : Prop := Idle L V ∨ ∃ l, Pend L l ∧ Shows (doAll L l) V

theorem doAll_app (L a b : List Bk) : doAll L (a ++ b) = doAll (doAll L a) b := by unfold doAll; rw [List.foldl_append]
theorem doAll_cons (L : List Bk) (b : Bk) (r : List Bk) : doAll L (b :: r) = doAll (put L b.f b.i b.b) r := rfl
theorem has_doAll_other {l : List Bk} {f : Fl} {i : Int} (h : ∀ b ∈ l, ¬ (b.f = f ∧ b.i = i)) : ∀ L, has (doAll L l) f i = has L f i := by
  induction l with
  | nil => intro L; rfl
  | cons b r ih =>
    intro L
    rw [doAll_cons, ih (fun x hx => h x (List.mem_cons_of_mem _ hx)), has_put_other _ _ _ _ _ _ (h b (List.mem_cons_self ..))]
theorem has_doAll_same {l : List Bk} {f : Fl} {i : Int} (h : ∃ b ∈ l, b.f = f ∧ b.i = i) : ∀ L L', has (doAll L l) f i = has (doAll L' l) f i := by
  induction l with
  | nil => obtain ⟨b, hb, _⟩ := h; cases hb
  | cons b r ih =>
    intro L L'
    rw [doAll_cons, doAll_cons]
    by_cases hr : ∃ x ∈ r, x.f = f ∧ x.i = i
    · exact ih hr _ _
    · have hn : ∀ x ∈ r, ¬ (x.f = f ∧ x.i = i) := fun x hx he => hr ⟨x, hx, he⟩
      rw [has_doAll_other hn, has_doAll_other hn]
      obtain ⟨x, hx, he⟩ := h
      rcases List.mem_cons.1 hx with rfl | hx
      · obtain ⟨rfl, rfl⟩ := he
        rw [has_put_same, has_put_same]
      · exact absurd he (hn x hx)
theorem mem_done {L l : List Bk} {b : Bk} (h : b ∈ doAll L l) : b ∈ L ∨ ∃ x ∈ l, b.f = x.f := by
  induction l generalizing L with
  | nil => exact Or.inl h
  | cons x r ih =>
    rw [doAll_cons] at h
    rcases ih h with h | ⟨y, hy, e⟩
    · rcases mem_put h with h | rfl
      · exact Or.inl h
      · exact Or.inr ⟨x, List.mem_cons_self .., rfl⟩
    · exact Or.inr ⟨y, List.mem_cons_of_mem _ hy, e⟩
/-- Blocks of the journal's own change nothing of what is shown. -/
theorem Shows.own {L V js : List Bk} (h : Shows L V) (hj : ∀ b ∈ js, b.f = J0) : Shows (doAll L js) V := by
  refine ⟨fun f i hf => ?_, fun b hb hf => ?_⟩
  · rw [has_doAll_other (fun b hb he => hf (by rw [← he.1, hj b hb]))]
    exact h.1 f i hf
  · rcases mem_done hb with hb | ⟨x, hx, e⟩
    · exact h.2 b hb hf
    · rw [e, hj x hx]
/-- The same blocks over what shows the same. -/
theorem Shows.both {L V l : List Bk} (h : Shows L V) (hl : ∀ b ∈ l, badB b = false) : Shows (doAll L l) (doAll V l) := by
  refine ⟨fun f i hf => ?_, fun b hb hf => ?_⟩
  · by_cases hx : ∃ b ∈ l, b.f = f ∧ b.i = i
    · exact has_doAll_same hx _ _
    · have hn : ∀ x ∈ l, ¬ (x.f = f ∧ x.i = i) := fun x hx' he => hx ⟨x, hx', he⟩
      rw [has_doAll_other hn, has_doAll_other hn]
      exact h.1 f i hf
  · rcases mem_done hb with hb | ⟨x, hx, e⟩
    · exact h.2 b hb hf
    · exact absurd (e ▸ hf) (badB_false.1 (hl x hx)).1
theorem Shows.twice {L V l k : List Bk} (h : Shows (doAll L l) V) (hk : ∀ b ∈ k, b ∈ l) (hl : ∀ b ∈ l, badB b = false) : Shows (doAll (doAll L k) l) V := by
  refine ⟨fun f i hf => ?_, fun b hb hf => ?_⟩
  · rw [← h.1 f i hf]
    by_cases hx : ∃ b ∈ l, b.f = f ∧ b.i = i
    · exact has_doAll_same hx _ _
    · have hn : ∀ x ∈ l, ¬ (x.f = f ∧ x.i = i) := fun x hx' he => hx ⟨x, hx', he⟩
      rw [has_doAll_other hn, has_doAll_other hn, has_doAll_other (fun x hx' => hn x (hk x hx'))]
  · rcases mem_done hb with hb | ⟨x, hx, e⟩
    · rcases mem_done hb with hb | ⟨x, hx, e⟩
      · by_cases hx : ∃ y ∈ doAll L l, y.f = b.f ∧ y.i = b.i
        · obtain ⟨y, hy, e, _⟩ := hx
          rw [← e]
          exact h.2 y hy (by rw [e]; exact hf)
        · exfalso
          have h1 : has (doAll L l) b.f b.i = none := by
            rw [has_none]
            intro hm
            obtain ⟨y, hy, e⟩ := List.mem_map.1 hm
            simp only [Prod.mk.injEq] at e
            exact hx ⟨y, hy, e⟩
          have h2 : has L b.f b.i ≠ none := by
            rw [Ne, has_none, Classical.not_not]
            exact List.mem_map.2 ⟨b, hb, rfl⟩
          rw [has_doAll_other (fun y hy he => (badB_false.1 (hl y hy)).1 (by rw [he.1]; exact hf))] at h1
          exact h2 h1
      · exact absurd (e ▸ hf) (badB_false.1 (hl x (hk x hx))).1
    · exact absurd (e ▸ hf) (badB_false.1 (hl x hx)).1
/-- Blocks that are not the journal's leave the journal's. -/
theorem has_own {L l : List Bk} (hl : ∀ b ∈ l, badB b = false) (i : Int) : has (doAll L l) J0 i = has L J0 i :=
  has_doAll_other (fun b hb he => (badB_false.1 (hl b hb)).1 (by rw [he.1])) L
theorem Pend.over {L l k : List Bk} (h : Pend L l) (hk : ∀ b ∈ k, badB b = false) : Pend (doAll L k) l :=
  ⟨h.pos, h.len, h.good, h.ok, (has_own hk 0).trans h.head, fun j hj => ⟨(has_own hk _).trans (h.notes j hj).1, (has_own hk _).trans (h.notes j hj).2⟩⟩
theorem notes_file {l : List Bk} {k : Nat} : ∀ b ∈ notesL l k, b.f = J0 ∧ 1 + 2 * (k : Int) ≤ b.i ∧ b.i < 1 + 2 * ((k + l.length : Nat) : Int) := by
  induction l generalizing k with
  | nil => intro b hb; cases hb
  | cons x r ih =>
    intro b hb
    simp only [notesL, List.mem_cons] at hb
    rcases hb with rfl | rfl | hb
    · exact ⟨rfl, by simp only; omega, by simp only [List.length_cons]; omega⟩
    · exact ⟨rfl, by simp only; omega, by simp only [List.length_cons]; omega⟩
    · have := ih b hb
      exact ⟨this.1, by omega, by simp only [List.length_cons]; omega⟩
theorem notes_len (l : List Bk) : ∀ k, (notesL l k).length = 2 * l.length := by
  induction l with
  | nil => intro k; rfl
  | cons x r ih =>
    intro k
    simp only [notesL, List.length_cons, ih]
    omega
theorem notes_stand (l : List Bk) : ∀ (k : Nat) (L : List Bk) (j : Nat) (h : j < l.length), has (doAll L (notesL l k)) J0 (1 + 2 * ((k + j : Nat) : Int)) = some (whereB l[j]) ∧ has (doAll L (notesL l k)) J0 (2 + 2 * ((k + j : Nat) : Int)) = some l[j].b := by
  induction l with
  | nil => intro k L j h; cases h
  | cons x r ih =>
    intro k L j h
    simp only [notesL, doAll_cons]
    cases j with
    | zero =>
      have hn : ∀ i : Int, i < 3 + 2 * (k : Int) → ∀ b ∈ notesL r (k + 1), ¬ (b.f = J0 ∧ b.i = i) := fun i hi b hb he => by
        have := notes_file b hb
        omega
      rw [has_doAll_other (hn _ (by omega)), has_doAll_other (hn _ (by omega))]
      constructor
      · rw [has_put_other _ _ _ _ _ _ (by intro he; have := he.2; omega)]
        exact has_put_same _ _ _ _
      · exact has_put_same _ _ _ _
    | succ j =>
      have := ih (k + 1) (put (put L J0 (1 + 2 * (k : Int)) (whereB x)) J0 (2 + 2 * (k : Int)) x.b) j (by simpa using h)
      rw [show k + 1 + j = k + (j + 1) by omega] at this
      simpa using this
theorem hd_other {L js : List Bk} (h : ∀ b ∈ js, b.i ≠ 0 ∨ b.f ≠ J0) : hdB (doAll L js) = hdB L := by
  unfold hdB
  rw [has_doAll_other (fun b hb he => (h b hb).elim (fun x => x he.2) (fun x => x he.1))]
theorem hd_put (L : List Bk) (b : List Int) : hdB (put L J0 0 b) = b := by
  unfold hdB
  rw [has_put_same]
  rfl
/-- The notes and the head of a group stand. -/
theorem pend_new {L l : List Bk} (hp : l ≠ []) (hm : may l = 0) (hk : ∀ b ∈ l, BkOk b) : Pend (put (doAll L (notesL l 0)) J0 0 (headB l)) l := by
  obtain ⟨h1, h2⟩ := may_ok.1 hm
  refine ⟨hp, h2, h1, hk, has_put_same _ _ _ _, fun j hj => ?_⟩
  have := notes_stand l 0 L j hj
  rw [Nat.zero_add] at this
  rw [has_put_other _ _ _ _ _ _ (by intro he; have := he.2; omega), has_put_other _ _ _ _ _ _ (by intro he; have := he.2; omega)]
  exact this
theorem Shows.head {L V : List Bk} (h : Shows L V) (b : List Int) : Shows (put L J0 0 b) V := h.own (js := [⟨J0, 0, b⟩]) (fun x hx => by rw [List.mem_singleton.1 hx])
/-- A group that no head stands for yet, and one that is under way, cut off behind k blocks. -/
theorem settle_cut {L V l : List Bk} (hP : Pend L l) (hV : Shows (doAll L l) V) (k : Nat) : RecL (doAll L ((l ++ [endK]).take k)) V ∧ (l.length < k → Idle (doAll L ((l ++ [endK]).take k)) V) := by
  by_cases hk : k ≤ l.length
  · rw [List.take_append_of_le_length hk]
    have hm : ∀ b ∈ l.take k, b ∈ l := fun b hb => List.mem_of_mem_take hb
    exact ⟨Or.inr ⟨l, hP.over (fun b hb => hP.good b (hm b hb)), hV.twice hm hP.good⟩, fun h => by omega⟩
  · have e : (l ++ [endK]).take k = l ++ [endK] := List.take_of_length_le (by simp; omega)
    have hI : Idle (doAll L (l ++ [endK])) V := by
      rw [doAll_app]
      exact ⟨hd_put _ _, hV.head _⟩
    rw [e]
    exact ⟨Or.inl hI, fun _ => hI⟩
theorem group_cut {L V l : List Bk} (hI : Idle L V) (hp : l ≠ []) (hm : may l = 0) (hk : ∀ b ∈ l, BkOk b) (k : Nat) :
    (k ≤ 2 * l.length → RecL (doAll L ((groupAll l).take k)) V) ∧ (2 * l.length < k → RecL (doAll L ((groupAll l).take k)) (doAll V l)) ∧ ((groupAll l).length ≤ k → Idle (doAll L ((groupAll l).take k)) (doAll V l)) := by
  have hn := notes_len l 0
  unfold groupAll
  refine ⟨fun h => ?_, fun h => ?_, fun h => ?_⟩
  · rw [List.take_append_of_le_length (by omega)]
    refine Or.inl ⟨?_, hI.2.own (fun b hb => (notes_file b (List.mem_of_mem_take hb)).1)⟩
    rw [hd_other (fun b hb => Or.inl (by have := (notes_file b (List.mem_of_mem_take hb)).2.1; omega))]
    exact hI.1
  · obtain ⟨m, rfl⟩ : ∃ m, k = (notesL l 0).length + (m + 1) := ⟨k - 2 * l.length - 1, by omega⟩
    rw [List.take_length_add_append, List.take_succ_cons, doAll_app, doAll_cons]
    refine (settle_cut (pend_new hp hm hk) ?_ m).1
    exact ((hI.2.own (fun b hb => (notes_file b hb).1)).head _).both (may_ok.1 hm).1
  · obtain ⟨m, rfl⟩ : ∃ m, k = (notesL l 0).length + (m + 1) := ⟨k - 2 * l.length - 1, by simp only [List.length_append, List.length_cons] at h; omega⟩
    rw [List.take_length_add_append, List.take_succ_cons, doAll_app, doAll_cons]
    refine (settle_cut (pend_new hp hm hk) ?_ m).2 (by simp only [List.length_append, List.length_cons, List.length_nil] at h; omega)
    exact ((hI.2.own (fun b hb => (notes_file b hb).1)).head _).both (may_ok.1 hm).1
/-- A disk behind writes that may be: the first so many are there. -/
theorem St.doAll_out {S : St} (h : S.out = true) (l : List Bk) (hl : ∀ b ∈ l, argOk b.i b.b.length) : S.doAll l = S := by
  induction l with
  | nil => rfl
  | cons b r ih =>
    have e : S.doAll (b :: r) = St.doAll (S.write b.f b.i b.b).2 r := rfl
    rw [e]
    unfold St.write
    rw [if_pos (hl b (List.mem_cons_self ..)), if_pos h]
    exact ih (fun x hx => hl x (List.mem_cons_of_mem _ hx))
theorem St.doAll_some {S : St} (l : List Bk) (hl : ∀ b ∈ l, argOk b.i b.b.length) : ∃ k, k ≤ l.length ∧ (S.doAll l).l = Go.Proofs.Ytjkeejbfipmidaa.doAll S.l (l.take k) ∧ (S.doAll l).writes = S.writes + k ∧ ((S.doAll l).out = false → k = l.length) := by
  induction l generalizing S with
  | nil => exact ⟨0, Nat.le_refl _, rfl, by simp [St.doAll], fun _ => rfl⟩
  | cons b r ih =>
    by_cases h : S.out = true
    · rw [St.doAll_out h _ hl]
      exact ⟨0, Nat.zero_le _, rfl, by simp, fun h' => by rw [h] at h'; cases h'⟩
    · have e : S.doAll (b :: r) = St.doAll (S.wrote b.f b.i b.b) r := by
        show St.doAll (S.write b.f b.i b.b).2 r = _
        unfold St.write
        rw [if_pos (hl b (List.mem_cons_self ..)), if_neg h]
      rw [e]
      obtain ⟨k, h1, h2, h3, h4⟩ := ih (S := S.wrote b.f b.i b.b) (fun x hx => hl x (List.mem_cons_of_mem _ hx))
      refine ⟨k + 1, by simp only [List.length_cons]; omega, ?_, ?_, fun h' => by simp only [List.length_cons]; rw [h4 h']⟩
      · rw [h2, List.take_succ_cons, doAll_cons]
        rfl
      · rw [h3]
        show S.writes + 1 + (k : Int) = S.writes + ((k + 1 : Nat) : Int)
        omega
theorem groupAll_len (l : List Bk) : (groupAll l).length = 3 * l.length + 2 := by
  unfold groupAll
  simp only [List.length_append, List.length_cons, List.length_nil, notes_len]
  omega
theorem groupAll_arg {l : List Bk} (hm : may l = 0) : ∀ b ∈ groupAll l, argOk b.i b.b.length := by
  obtain ⟨h1, h2⟩ := may_ok.1 hm
  have hn : ∀ (l : List Bk) (k : Nat), (∀ b ∈ l, badB b = false) → k + l.length ≤ 256 → ∀ b ∈ notesL l k, argOk b.i b.b.length := by
    intro l
    induction l with
    | nil => intro k _ _ b hb; cases hb
    | cons x r ih =>
      intro k hg hle b hb
      simp only [notesL, List.mem_cons] at hb
      simp only [List.length_cons] at hle
      rcases hb with rfl | rfl | hb
      · exact ⟨by simp only; omega, by simp only; omega, rowB_len _⟩
      · exact ⟨by simp only; omega, by simp only; omega, (badB_false.1 (hg x (List.mem_cons_self ..))).2.2.2⟩
      · exact ih (k + 1) (fun y hy => hg y (List.mem_cons_of_mem _ hy)) (by omega) b hb
  intro b hb
  unfold groupAll at hb
  simp only [List.mem_append, List.mem_cons, List.not_mem_nil, or_false] at hb
  rcases hb with hb | rfl | hb | rfl
  · exact hn l 0 h1 (by omega) b hb
  · exact ⟨Int.le_refl 0, show (0 : Int) < 4096 by decide, rowB_len _⟩
  · exact (badB_false.1 (h1 b hb)).2
  · exact ⟨by decide, by decide, by decide⟩
theorem settle_arg {L l : List Bk} (h : Pend L l) : ∀ b ∈ l ++ [endK], argOk b.i b.b.length := by
  intro b hb
  rcases List.mem_append.1 hb with hb | hb
  · exact (badB_false.1 (h.good b hb)).2
  · rw [List.mem_singleton.1 hb]
    exact ⟨by decide, by decide, by decide⟩
end
end Go.Proofs.Ytjkeejbfipmidaa
