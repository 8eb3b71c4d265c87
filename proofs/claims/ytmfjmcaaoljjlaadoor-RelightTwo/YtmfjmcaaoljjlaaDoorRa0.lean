/-
  The landed walk round a cell: its neighbours, one by one, are shown to a function.
-/
import Derived.Test.YtmfjmcaaoljjlaaDoorRm
set_option maxRecDepth 20000
namespace Go.Proofs.YtmfjmcaaoljjlaaDoor
open C Go.RowKit L

/-- The neighbours in the first k ways. -/
def dnK (W D T i k : Nat) : List Nat := (List.range k).filterMap (nbr W D T i)
theorem dnK_succ (W D T i k : Nat) : dnK W D T i (k + 1) = dnK W D T i k ++ (nbr W D T i k).toList := by
  unfold dnK
  rw [List.range_succ, List.filterMap_append]
  congr 1
theorem dnK_len (W D T i k : Nat) : (dnK W D T i k).length ≤ k := by
  unfold dnK
  exact Nat.le_trans (List.length_filterMap_le _ _) (by rw [List.length_range]; exact Nat.le_refl _)
/-- Blocks of a way lie as they lay. -/
def Ty77 (w w' : World) : Prop := ∀ (b : Nat) (cs : Array Value), w.heap[b]? = some (.cells cs 77 (0, 0)) → w'.heap[b]? = some (.cells cs 77 (0, 0))
theorem Ty77.refl (w : World) : Ty77 w w := fun _ _ h => h
theorem Ty77.trans {a b c : World} (h : Ty77 a b) (k : Ty77 b c) : Ty77 a c := fun x cs q => k x cs (h x cs q)
theorem Ty77.below {w w' : World} (h : Below w.heap.size w w') : Ty77 w w' := fun b _ q => (h.block b (Array.getElem?_eq_some_iff.1 q).1).trans q
theorem Ty77.grown {w w' : World} {r : Option Nat} (h : w.grownBy w' r) (hr : ∀ b, r = some b → ∃ cs t, w.heap[b]? = some (.cells cs t (0, 0)) ∧ t ≠ 77) : Ty77 w w' := fun b cs q => (h.block b (Array.getElem?_eq_some_iff.1 q).1 (fun e => by
  obtain ⟨cs', t, h1, h2⟩ := hr b e.symm
  rw [q] at h1
  cases h1
  exact h2 rfl)).trans q
theorem Ty77.set {w : World} {b k : Nat} {cs : Array Value} {t : TypeId} (v : Value) (h : w.heap[b]? = some (.cells cs t (0, 0))) (ht : t ≠ 77) : Ty77 w (w.setCell ⟨b, k, none⟩ v) := fun x cs' q => by
  refine (Below.heap_setCell w ⟨b, k, none⟩ v x (fun e => ?_)).trans q
  have e : x = b := e
  rw [e, h] at q
  cases q
  exact ht rfl
/-- What the function that is shown the neighbours leaves. -/
structure Sh (e : LE) (i F a1 a2 a3 : Nat) (Inv : List Nat → World → Prop) : Prop where
  bm : ∀ dn w, Inv dn w → BM e w
  on : ∀ dn w w', Inv dn w → Below w.heap.size w w' → Inv dn w'
  call : ∀ k j dn w, k < 6 → dn.length ≤ k → nbr e.W e.D e.T i k = some j → Inv dn w → Calls Tryd.prog F #[.int .i64 (j : Int), .pointer (some ⟨a1, 0, none⟩), .pointer (some ⟨a2, 0, none⟩), .pointer (some ⟨a3, 0, none⟩)] w fun x w' => x = .returned (.tuple #[]) ∧ Inv (dn ++ [j]) w' ∧ Ty77 w w'
/-- How far a cell lies from one end, how many lie so side by side, and how far they are apart. -/
def wayB (W D i : Nat) : Nat → Nat
  | 0 => i % W
  | 1 => i / W % D
  | _ => i / W / D
def wayM (W D T : Nat) : Nat → Nat
  | 0 => W
  | 1 => D
  | _ => T
def wayS (W D : Nat) : Nat → Nat
  | 0 => 1
  | 1 => W
  | _ => W * D
theorem way_dn (W D T i X : Nat) (h : X < 3) : nbr W D T i (2 * X) = if 0 < wayB W D i X then some (i - wayS W D X) else none := by
  have h : X = 0 ∨ X = 1 ∨ X = 2 := by omega
  rcases h with rfl | rfl | rfl <;> rfl
theorem way_up (W D T i X : Nat) (h : X < 3) : nbr W D T i (2 * X + 1) = if wayB W D i X + 1 < wayM W D T X then some (i + wayS W D X) else none := by
  have h : X = 0 ∨ X = 1 ∨ X = 2 := by omega
  rcases h with rfl | rfl | rfl <;> rfl
theorem way_le (W D i X : Nat) (h : X < 3) (h0 : 0 < wayB W D i X) : wayS W D X ≤ i := by
  have h : X = 0 ∨ X = 1 ∨ X = 2 := by omega
  rcases h with rfl | rfl | rfl
  · have h1 : i % W ≤ i := Nat.mod_le _ _
    have h2 : 0 < i % W := h0
    show 1 ≤ i
    omega
  · have h2 : 0 < i / W % D := h0
    have h3 : i / W % D ≤ i / W := Nat.mod_le _ _
    show W ≤ i
    generalize i / W % D = u at h2 h3
    rcases Nat.lt_or_ge i W with h | h
    · rw [Nat.div_eq_of_lt h] at h3; omega
    · exact h
  · have h2 : 0 < i / W / D := h0
    show W * D ≤ i
    rw [Nat.div_div_eq_div_mul] at h2
    rcases Nat.lt_or_ge i (W * D) with h | h
    · rw [Nat.div_eq_of_lt h] at h2; omega
    · exact h
end Go.Proofs.YtmfjmcaaoljjlaaDoor
