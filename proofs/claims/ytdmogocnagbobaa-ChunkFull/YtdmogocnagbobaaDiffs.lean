/-
  Diff, of the document: the places at which two rows of bytes have others.
-/
import Derived.Test.YtdmogocnagbobaaCounts
import Derived.Deep.QuietTactic
import Derived.OwnWalk
import Derived.Maps.AppendAt
namespace Go.Proofs.Ytdmogocnagbobaa
open Go.RowKit

/-- The places below n at which the two differ. -/
def diffTo (xs ys : List Int) : Nat → List Int
  | 0 => []
  | n + 1 => if xs.getD n 0 = ys.getD n 0 then diffTo xs ys n else diffTo xs ys n ++ [(n : Int)]
theorem diffTo_length (xs ys : List Int) : ∀ n, (diffTo xs ys n).length ≤ n
  | 0 => Nat.le_refl _
  | n + 1 => by
    have := diffTo_length xs ys n
    unfold diffTo
    split
    · omega
    · rw [List.length_append, List.length_singleton]; omega
def Ints (w : World) (base : Nat) (v : Value) (l : List Int) : Prop := w.ownsRow base 3 1 v l.length (l.map (Value.int .i64))

set_option maxRecDepth 100000 in
set_option maxHeartbeats 800000 in
theorem rdiff_c (g h : Nat) (xs ys : List Int) (w : World) (hX : Blk w g 5 xs) (hY : Blk w h 5 ys) (lx : xs.length = 32768) (ly : ys.length = 32768) :
    Calls Try.prog 27 #[.slice (some ⟨g, 0, none⟩) 32768 32768, .slice (some ⟨h, 0, none⟩) 32768 32768] w fun e w' => ∃ v, e = .returned v ∧ Ints w' w.heap.size v (diffTo xs ys 32768) ∧ Below w.heap.size w w' := by
  obtain ⟨i0, hi, hz0, hz1, hz2⟩ := info_parts info3
  have hgl := hX.lt
  have hhl := hY.lt
  go_enter Try.func27, Try.ntmps27
  go_wp2
  go_loopw [5, 6] (fun v i wr => ∃ n : Nat, n ≤ 32768 ∧ i = .int .i64 n ∧ Ints wr w.heap.size v (diffTo xs ys n) ∧ Below w.heap.size w wr) (fun _ i _ => 32768 - (intOf i).toNat)
  case atStart => exact ⟨0, Nat.zero_le _, rfl, ⟨rfl, Or.inl ⟨rfl, rfl⟩⟩, Below.refl _ _⟩
  case round =>
    obtain ⟨n, hn, rfl, hO, hb1⟩ := hrel
    by_cases hlt : n < 32768
    · have hc1 : wr.cell? ⟨g, n, none⟩ = some (.int .u8 (xs.getD n 0)) := (hX.below hb1 hgl).cell (by omega)
      have hc2 : wr.cell? ⟨h, n, none⟩ = some (.int .u8 (ys.getD n 0)) := (hY.below hb1 hhl).cell (by omega)
      have hlt' : (n : Int) < 32768 := by omega
      have hD : Hid (diffTo xs ys (n + 1) = if xs.getD n 0 = ys.getD n 0 then diffTo xs ys n else diffTo xs ys n ++ [(n : Int)]) := rfl
      have hlen := diffTo_length xs ys n
      generalize diffTo xs ys n = L at *
      generalize xs.getD n 0 = p at *
      generalize ys.getD n 0 = q at *
      by_cases e : p = q
      · subst e
        rw [show L = diffTo xs ys (n + 1) by rw [hD.out, if_pos rfl]] at hO
        clear hD
        go_wp2_with fail
        go_quiet (fail)
        go_wp2
        go_roundw
        case rel => exact ⟨n + 1, by omega, by go_num, hO, ⟨hb1.os, hb1.tape, hb1.output, hb1.size, hb1.block⟩⟩
        case measure => simp [intOf]; omega
      · have hD' : diffTo xs ys (n + 1) = L ++ [(n : Int)] := by rw [hD.out, if_neg e]
        have HD : Hid (diffTo xs ys (n + 1) = L ++ [(n : Int)]) := hD'
        have hne : (p != q) = true := by simp [e]
        clear hD hD' e
        go_wp2_with fail
        go_quiet (fail)
        have hb2 : Below w.heap.size w (wr.drewN nq) := ⟨hb1.os, hb1.tape, hb1.output, hb1.size, hb1.block⟩
        have hO2 : (wr.drewN nq).ownsRow w.heap.size 3 1 _ L.length (L.map (Value.int .i64)) := hO
        have hs2 : w.heap.size ≤ (wr.drewN nq).heap.size := hb2.size
        clear hO hb1 hc1 hc2
        generalize wr.drewN nq = W at *
        go_wp2_with (at_builtin; refine wpList_append_own _ rfl _ _ 28 rfl w.heap.size 3 i0 (.int .i64 0) 1 8 Try.underlying28 hi hz0 hz1 hz2 rfl (by decide) _ _ _ rfl (hO2.alloc _) ⟨W.heap.size, 0, none⟩ 1 1 [.int .i64 (n : Int)] rfl rfl (cell_one_new _ _ _) (ints_oneCell .i64 [(n : Int)]) (by unfold maxLen; omega) (by omega) (by simp; omega) ?_; intro v' w3 hown' hgrow _)
        have R1 : Ints w3 w.heap.size v' (diffTo xs ys (n + 1)) := by
          rw [HD.out]
          unfold Ints
          rw [List.length_append, List.map_append]
          exact hown'
        have R2 : Below w.heap.size w w3 := (hb2.alloc hs2 _).grown hgrow (by simp; omega) (fun k hk => (hO2.lt k hk).1)
        clear hown' hgrow hO2 hb2
        go_wp2
        go_roundw
        case rel => exact ⟨n + 1, by omega, by go_num, R1, R2⟩
        case measure => simp [intOf]; omega
    · obtain rfl : n = 32768 := by omega
      go_wp2
      go_ret
      exact ⟨_, rfl, hO, hb1⟩
end Go.Proofs.Ytdmogocnagbobaa
