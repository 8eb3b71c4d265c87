/-
  What Of answers, of the program: the map of the names, laid row by row, and what is looked up there, for every text; whatever lay is as it lay.
-/
import Derived.Test.YtdkmlhchfclpeaaDoorKinds
import Derived.Maps.OwnSet
namespace Go.Proofs.YtdkmlhchfclpeaaDoor
open Go.RowKit Go.WideMaps Go.Maps

theorem law : Keyed Tryd.prog 9 := string_keyed Tryd.underlying9
theorem zero3 (w : World) : (zeroValue 3).run Tryd.prog w = .ok (.int .i64 0) w := by kernel_rfl
theorem info43 : (Tryd.prog.info? 43).map (·.size) = some tab.length := by kernel_rfl
def key (k : Nat) : Lit := .string (nm k).data.toList
theorem nm_size {K : Nat} (hK : K < 16) : (nm K).size ≤ maxLen := by
  unfold maxLen
  iterate 16 (rcases K with _ | K; (exact of_decide_eq_true (by kernel_rfl)))
  omega
theorem key_ok {K : Nat} (hK : K < 16) : keyOf Tryd.prog 9 (.string (nm K)) = some (key K) := keyOf_string_mk Tryd.underlying9 (nm_size hK)
/-- The map behind k rows. -/
def C : Nat → DataW Unit
  | 0 => .map []
  | k + 1 => (C k).put (key k) (.lit (.int .i64 k))
theorem ix {K : Nat} (hK : K < 16) (w : World) : (Instr.index 43 (.agg tab.toArray) (.int .i64 K)).run Tryd.prog w = .ok (.agg #[.string (nm K), .bool (op K), .bool (cl K), .int .i64 (ls K), .int .i64 (em K)]) w := by
  iterate 16 (rcases K with _ | K; kernel_rfl)
  omega
theorem Tab.whole {w : World} (h : Tab w) : w.rangeAt 0 0 tab := by
  obtain ⟨t, fr, h⟩ := h
  intro j v hv
  rw [Nat.zero_add, cell_of_row w 0 _ _ t fr h, List.getElem?_toArray]
  exact hv
theorem mk (w : World) : (Instr.makeMap 36 (some (.int .i64 16))).run Tryd.prog w = .ok (.map (some w.heap.size)) (w.alloc (.map #[] 0)) := by kernel_rfl

set_option maxRecDepth 100000 in
theorem byName_c (w : World) (T : Tab w) : Calls Tryd.prog 22 #[] w fun e w' => e = .returned (.map (some w.heap.size)) ∧ w'.ownsMap Tryd.prog 9 (plainElem Tryd.prog 3) w.heap.size 16 (C 16) ∧ Below w.heap.size w w' := by
  have hmm := mk
  have hr : (w.alloc (.map #[] 0)).rangeAt 0 0 tab := (T.on ((Below.refl _ _).alloc (Nat.le_refl _) _)).whole
  go_enter Tryd.func22, Tryd.ntmps22
  go_wp2_with (first | (refine wpList_load_mid rfl 43 _ rfl 0 0 rfl tab _ hr Tryd.underlying43 rfl info43 ?_) | go_in)
  go_loopw [6] (fun i wr => ∃ k : Nat, k ≤ 16 ∧ i = .int .i64 k ∧ wr.ownsMap Tryd.prog 9 (plainElem Tryd.prog 3) w.heap.size k (C k) ∧ Below w.heap.size w wr)
    (fun i _ => 16 - (intOf i).toNat)
  case atStart => exact ⟨0, Nat.zero_le _, rfl, World.ownsMap_made _ _ _ _, (Below.refl _ _).alloc (Nat.le_refl _) _⟩
  case round =>
    obtain ⟨k, hk, rfl, hown, hnx⟩ := hrel
    by_cases hlt : k < 16
    · have hix := ix hlt
      have hkey := key_ok hlt
      have h0 : (k : Int) < 16 := by omega
      go_wp2_with (first | (at_mapUpdate; refine wpList_mapUpdate_own _ rfl _ _ _ 36 rfl 9 3 law Tryd.underlying36 _ w.heap.size k _ rfl (hown.alloc _) (by unfold maxLen; omega) _ _ _ rfl rfl hkey _ [] (plainElem_int Tryd.underlying3 (WalkArith.wf_i64 (by omega))) ?_) | go_in)
      intro w1 hown1 hgrow1
      have R2 : Below w.heap.size w w1 := (hnx.alloc hnx.size _).grown hgrow1 (by simp only [World.size_alloc]; exact Nat.le_succ_of_le hnx.size) (fun j hj => by cases hj; exact Nat.le_refl _)
      have R1 : w1.ownsMap Tryd.prog 9 (plainElem Tryd.prog 3) w.heap.size (k + 1) (C (k + 1)) := hown1
      clear hown1 hgrow1 hown hnx hkey hix
      go_wp2
      go_roundw
      case rel => exact ⟨k + 1, by omega, by go_num, R1, R2⟩
      case measure => simp [intOf]; omega
    · obtain rfl : k = 16 := by omega
      go_wp2
      go_ret
      exact ⟨rfl, hown, hnx⟩

theorem names_apart {j k : Nat} (hj : j < 16) (hk : k < 16) (h : nm j = nm k) : j = k := by
  have h' : nmL.getD j [] = nmL.getD k [] := by simpa [nm] using congrArg (fun b : ByteArray => b.data.toList) h
  have H : ∀ j k : Fin 16, nmL.getD j.1 [] = nmL.getD k.1 [] → j = k := of_decide_eq_true (by kernel_rfl)
  exact congrArg Fin.val (H ⟨j, hj⟩ ⟨k, hk⟩ h')
theorem key_nm {s : ByteArray} {k : Nat} (h : Lit.string s.data.toList = key k) : s = nm k := by
  unfold key at h
  injection h with h
  cases s with | mk a => cases e : nm k with | mk b => rw [e] at h; simp at h; rw [h]
theorem C_map : ∀ k, IsMap (C k)
  | 0 => ⟨[], rfl⟩
  | k + 1 => by obtain ⟨es, e⟩ := C_map k; unfold C; rw [e]; exact ⟨_, rfl⟩
theorem C_no {s : ByteArray} : ∀ k, (∀ j, j < k → nm j ≠ s) → Maps.has (C k) (.string s.data.toList) = false ∧ (C k).atKey (.string s.data.toList) (.lit (.int .i64 0)) = .lit (.int .i64 0)
  | 0, _ => ⟨rfl, rfl⟩
  | k + 1, h => by
    have hne : Lit.string s.data.toList ≠ key k := fun e => h k (Nat.lt_succ_self k) (key_nm e).symm
    have := C_no k fun j hj => h j (by omega)
    unfold C
    rw [has_put_other hne, atKey_put_other hne]
    exact this
theorem C_yes {j : Nat} : ∀ k, j < k → k ≤ 16 → Maps.has (C k) (key j) = true ∧ (C k).atKey (key j) (.lit (.int .i64 0)) = .lit (.int .i64 j)
  | 0, h, _ => absurd h (Nat.not_lt_zero _)
  | k + 1, h, h' => by
    unfold C
    by_cases e : j = k
    · subst e
      exact ⟨has_put_same (C_map j) (show WideAt.IsKeyLit (key j) from trivial) _, atKey_put_same (C_map j) (show WideAt.IsKeyLit (key j) from trivial) _ _⟩
    · have hne : key j ≠ key k := fun h1 => e (names_apart (by omega) (by omega) (key_nm h1))
      rw [has_put_other hne, atKey_put_other hne]
      exact C_yes k (by omega) (by omega)

theorem of_any {s : ByteArray} (hs : s.size ≤ maxLen) (w : World) (T : Tab w) (N : Int) (b : Bool) (h : Maps.has (C 16) (.string s.data.toList) = b ∧ (C 16).atKey (.string s.data.toList) (.lit (.int .i64 0)) = .lit (.int .i64 N)) :
    Calls Tryd.prog 10 #[.string s] w fun e w' => e = .returned (.tuple #[.int .i64 N, .bool b]) ∧ Below w.heap.size w w' := by
  have hkey : keyOf Tryd.prog 9 (.string s) = some (.string s.data.toList) := keyOf_string_mk Tryd.underlying9 hs
  have hb := byName_c w T
  obtain ⟨h1, h2⟩ := h
  generalize C 16 = D at hb h1 h2
  generalize s.data.toList = l at hkey h1 h2
  go_enter Tryd.func10, Tryd.ntmps10
  go_wp2_with fail
  refine hb.mono ?_
  rintro _ w1 ⟨rfl, hown, bel⟩
  clear hb
  go_wp2_with (first | (at_lookup; refine wpList_lookup_own_ok_int _ rfl _ _ 36 rfl 9 3 .i64 law Tryd.underlying36 Tryd.underlying3 (zero3 _) w.heap.size 16 _ rfl hown _ _ rfl hkey ?_; intro c hat hwc) | go_in)
  rw [h2] at hat
  injection hat with hat
  injection hat with _ hat
  subst hat
  go_ret2
  exact ⟨rfl, bel⟩
theorem of_yes {K : Nat} (hK : K < 16) (w : World) (T : Tab w) : Calls Tryd.prog 10 #[.string (nm K)] w fun e w' => e = .returned (.tuple #[.int .i64 K, .bool true]) ∧ Below w.heap.size w w' :=
  of_any (nm_size hK) w T K true (C_yes (j := K) 16 hK (Nat.le_refl _))
theorem of_no {s : ByteArray} (hs : s.size ≤ maxLen) (h : ∀ K, K < 16 → nm K ≠ s) (w : World) (T : Tab w) : Calls Tryd.prog 10 #[.string s] w fun e w' => e = .returned (.tuple #[.int .i64 0, .bool false]) ∧ Below w.heap.size w w' :=
  of_any hs w T 0 false (C_no 16 h)
end Go.Proofs.YtdkmlhchfclpeaaDoor
