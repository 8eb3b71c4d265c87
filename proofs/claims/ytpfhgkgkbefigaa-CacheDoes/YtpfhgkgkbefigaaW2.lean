/-
  Where a cache stands in a law; two rows held against one another; is a chunk among others?
-/
import Derived.Test.YtpfhgkgkbefigaaW1
import Derived.Test.YtpfhgkgkbefigaaCnd
set_option maxRecDepth 20000
namespace Go.Proofs.Ytpfhgkgkbefigaa
open Go.RowKit Go.Maps

theorem is31_isP {o : Obj} (ho : isP o = true) : is31 o = false := by
  cases o with
  | cells cs t fz =>
    unfold isP at ho
    unfold is31
    simp only [Bool.or_eq_true, beq_iff_eq] at ho
    rcases ho with (rfl | rfl) | rfl <;> rfl
  | _ => rfl
/-- A cache of a law that began at w. -/
structure Ls (w : World) (c : Nat) (m : Int) (l : List E) (N : Nat) (w' : World) : Prop where
  cs : CS w.heap.size w' c m l N
  below : Below w.heap.size w w'
section
variable {w : World} {c : Nat} {m : Int} {l : List E} {N : Nat} {w1 w2 : World}
theorem Ls.on (h : Ls w c m l N w1) (hb : Below w1.heap.size w1 w2) : Ls w c m l N w2 := ⟨h.cs.below hb, h.below.trans (hb.mono h.below.size)⟩
theorem Ls.to {l' : List E} {N' : Nat} (h : Ls w c m l N w1) (hc : CS w.heap.size w2 c m l' N') (hk : KeepT isP w.heap.size w1 w2) : Ls w c m l' N' w2 :=
  ⟨hc, h.below.trans (hk.below h.below.size)⟩
theorem Ls.put (h : Ls w c m l N w1) (hN : N ≤ 900) {x z : Int} (hx : I64 x) (hz : I64 z) (v : Int) : Calls Try.prog 9 #[.pointer (some ⟨c, 0, none⟩), valA x z, .int .i64 v] w1 fun e w' => e = .returned (.tuple #[]) ∧ Ls w c m (putE l x z v) (N + 1) w' ∧ KeepT isP w.heap.size w1 w' :=
  (put_c h.cs hx hz v hN).mono fun _ _ ⟨he, h1, h2⟩ => ⟨he, h.to h1 h2, h2⟩
theorem Ls.get (h : Ls w c m l N w1) (hN : N ≤ 900) {x z : Int} (hx : I64 x) (hz : I64 z) : Calls Try.prog 11 #[.pointer (some ⟨c, 0, none⟩), valA x z] w1 fun e w' => e = .returned (.tuple #[.int .i64 (valE (findE l x z)), .bool (findE l x z).isSome]) ∧ Ls w c m (getE l x z) (N + 1) w' ∧ KeepT isP w.heap.size w1 w' :=
  (get_c h.cs hx hz hN).mono fun _ _ ⟨he, h1, h2⟩ => ⟨he, h.to h1 h2, h2⟩
theorem Ls.pin (h : Ls w c m l N w1) {x z : Int} (hx : I64 x) (hz : I64 z) : Calls Try.prog 13 #[.pointer (some ⟨c, 0, none⟩), valA x z] w1 fun e w' => e = .returned (.bool (okE l x z true)) ∧ Ls w c m (pinE l x z true) N w' ∧ KeepT isP w.heap.size w1 w' :=
  (pin_c h.cs hx hz).mono fun _ _ ⟨he, h1, h2⟩ => ⟨he, h.to h1 h2, h2⟩
theorem Ls.unpin (h : Ls w c m l N w1) (hN : N ≤ 900) {x z : Int} (hx : I64 x) (hz : I64 z) : Calls Try.prog 15 #[.pointer (some ⟨c, 0, none⟩), valA x z] w1 fun e w' => e = .returned (.bool (okE l x z false)) ∧ Ls w c m (pinE l x z false) N w' ∧ KeepT isP w.heap.size w1 w' :=
  (unpin_c h.cs hx hz hN).mono fun _ _ ⟨he, h1, h2⟩ => ⟨he, h.to h1 h2, h2⟩
theorem Ls.drop (h : Ls w c m l N w1) {x z : Int} (hx : I64 x) (hz : I64 z) : Calls Try.prog 16 #[.pointer (some ⟨c, 0, none⟩), valA x z] w1 fun e w' => e = .returned (.bool (okE l x z true)) ∧ Ls w c m (dropE l x z) N w' ∧ KeepT isP w.heap.size w1 w' :=
  (drop_c h.cs hx hz).mono fun _ _ ⟨he, h1, h2⟩ => ⟨he, h.to h1 h2, h2⟩
theorem Ls.trim (h : Ls w c m l N w1) (hm : 1 ≤ m) : Calls Try.prog 19 #[.pointer (some ⟨c, 0, none⟩)] w1 fun e w' => ∃ a cp, e = .returned (.slice a (trimE m l).2.length cp) ∧ ARow w.heap.size w' a cp (trimE m l).2 ∧ Ls w c m (trimE m l).1 N w' ∧ KeepT isP w.heap.size w1 w' :=
  (trim_c h.cs hm).mono fun _ _ ⟨a, cp, he, hr, h1, h2⟩ => ⟨a, cp, he, hr.base h.below.size, h.to h1 h2, h2⟩
theorem Ls.keys (h : Ls w c m l N w1) : Calls Try.prog 21 #[.pointer (some ⟨c, 0, none⟩)] w1 fun e w' => ∃ a cp, e = .returned (.slice a (keysE l).length cp) ∧ ARow w.heap.size w' a cp (keysE l) ∧ Below w1.heap.size w1 w' ∧ Ls w c m l N w' :=
  (keys_c h.cs).mono fun _ _ ⟨a, cp, he, hr, hb⟩ => ⟨a, cp, he, hr.base h.below.size, hb, h.on hb⟩
theorem Ls.pinN (h : Ls w c m l N w1) : Calls Try.prog 22 #[.pointer (some ⟨c, 0, none⟩)] w1 fun e w' => e = .returned (.int .i64 (pins l : Int)) ∧ Below w1.heap.size w1 w' ∧ Ls w c m l N w' :=
  (pinN_c h.cs).mono fun _ _ ⟨he, hb⟩ => ⟨he, hb, h.on hb⟩
end
/-- New, whatever it is handed. -/
theorem new_any (m : Int) {W w : World} (hb : Below W.heap.size W w) : Calls Try.prog 8 #[.int .i64 m] w fun e w' => ∃ p, e = .returned (.pointer p) ∧ Below W.heap.size W w' ∧ (m < 1 → p = none) ∧ (1 ≤ m → ∃ c, p = some ⟨c, 0, none⟩ ∧ Ls W c m [] 0 w') := by
  by_cases h : m < 1
  · refine (new_no m w h).mono ?_
    rintro e w' ⟨rfl, rfl⟩
    exact ⟨none, rfl, hb, fun _ => rfl, fun h2 => by omega⟩
  · refine (new_c (B := W.heap.size) m w (by omega) hb.size).mono ?_
    rintro e w' ⟨c, rfl, hc, hb2⟩
    have hb3 := hb.trans (hb2.mono hb.size)
    exact ⟨_, rfl, hb3, fun h2 => absurd h2 h, fun _ => ⟨c, rfl, hc, hb3⟩⟩
/-- Is a chunk among the first n? -/
def heldB (ps : List (Int × Int)) (p : Int × Int) : Nat → Bool
  | 0 => false
  | n + 1 => heldB ps p n || decide (ps.getD n (0, 0) = p)
theorem held_not {ps : List (Int × Int)} {p : Int × Int} : ∀ n, heldB ps p n = false → ∀ i, i < n → ps.getD i (0, 0) ≠ p
  | 0, _ => fun i h => absurd h (Nat.not_lt_zero _)
  | n + 1, hh => fun i h => by
    unfold heldB at hh
    rw [Bool.or_eq_false_iff] at hh
    by_cases e : i = n
    · subst e
      exact of_decide_eq_false hh.2
    · exact held_not n hh.1 i (by omega)
theorem held_mem {ps : List (Int × Int)} {p : Int × Int} (h : heldB ps p ps.length = false) : p ∉ ps := fun hm => by
  obtain ⟨i, hi, e⟩ := List.getElem_of_mem hm
  exact held_not ps.length h i hi (by simp [hi, e])
end Go.Proofs.Ytpfhgkgkbefigaa
