/-
  Made; Diff of two that are alike; a chunk's bytes as a text.
-/
import Derived.Test.YtdkihhjhjfkjjaaAwake
import Derived.Test.YtdkihhjhjfkjjaaSame
namespace Go.Proofs.Ytdkihhjhjfkjjaa
open Go.RowKit

theorem Blk.conv {w : World} {g : Nat} {t : TypeId} {cs : List Int} (h : Blk w g t cs) (hl : cs.length = 32768) (hk : Kinds cs) : (convert 25 9 (.slice (some ⟨g, 0, none⟩) 32768 32768)).run Try.prog w = .ok (.string (strOfNums cs)) w := by
  have := conv_c (cap := 32768) (h.src hk)
  rwa [hl] at this
theorem Kinds.bad {cs : List Int} (h : Kinds cs) : ∀ n, badTo cs n = false
  | 0 => rfl
  | n + 1 => by
    unfold badTo
    rw [Kinds.bad h n, decide_eq_false (by have := h.at n; omega)]
    rfl
theorem Kinds.may {cs : List Int} (h : Kinds cs) (hl : cs.length = 32768) : mayC cs = 0 := by
  unfold mayC
  rw [hl, if_neg (by omega), if_neg (by omega), h.bad]
  rfl
theorem made_c (a : Option Addr) (n cap : Nat) (bs : List Int) (w : World) (hS : Src w a n bs) (hn : n ≤ 140737488355328) (hm : mayC bs = 0) :
    Calls Try.prog 11 #[.slice a n cap] w fun e w' => e = .returned (.pointer (some ⟨w.heap.size, 0, none⟩)) ∧ Blk w' w.heap.size 61 bs ∧ Below w.heap.size w w' := by
  go_enter Try.func11, Try.ntmps11
  go_wp2_with fail
  refine (from_c a n cap bs w hS hn).mono ?_
  rintro _ w1 ⟨hb, ⟨_, rfl, hB⟩ | ⟨h0, _⟩⟩
  · go_wp2
    go_ret
    exact ⟨rfl, hB, hb⟩
  · exact absurd hm h0

set_option maxRecDepth 100000 in
set_option maxHeartbeats 1600000 in
theorem diff_same (g h : Nat) (xs : List Int) (w : World) (hX : Blk w g 61 xs) (hY : Blk w h 61 xs) (lx : xs.length = 32768) :
    Calls Try.prog 18 #[.pointer (some ⟨g, 0, none⟩), .pointer (some ⟨h, 0, none⟩)] w fun e w' => e = .returned (.slice none 0 0) ∧ ∃ n, w' = w.drewN n := by
  have Hc : Hid ((xs == xs) = true) := by show _ = _; simp
  have Hl1 : Hid (∀ n, (Instr.loadAt 61 (.pointer (some ⟨g, 0, none⟩))).run Try.prog (w.drewN n) = .ok (.agg (vals xs)) (w.drewN n)) := fun n => (hX.drewN n).load lx
  have Hl2 : Hid (∀ n, (Instr.loadAt 61 (.pointer (some ⟨h, 0, none⟩))).run Try.prog (w.drewN n) = .ok (.agg (vals xs)) (w.drewN n)) := fun n => (hY.drewN n).load lx
  go_enter Try.func18, Try.ntmps18
  go_wp2_with fail
  refine wp_region_quiet_lit (by kernel_rfl) (by kernel_rfl) ?_
  iterate 9 quiet_step (fail)
  refine wpQuiet_value (by kernel_rfl) _ (by rintro _ ⟨n, rfl⟩; exact exec_load rfl rfl (Hl1.out n)) ?_
  iterate 2 quiet_step (fail)
  refine wpQuiet_value (by kernel_rfl) _ (by rintro _ ⟨n, rfl⟩; exact exec_load rfl rfl (Hl2.out n)) ?_
  refine wpQuiet_value (by kernel_rfl) (.bool true) (by rintro _ ⟨n, rfl⟩; rw [← Hc.out]; exact exec_eql (xs := xs) (ys := xs) _ rfl rfl rfl lx lx) ?_
  quiet_step (fail)
  refine wpQuiet_nil ?_
  rintro _ ⟨nq, rfl⟩
  clear Hl1 Hl2 Hc
  go_wp2
  go_ret
  exact ⟨rfl, nq, rfl⟩
theorem diff_like (g h : Nat) (xs : List Int) (w : World) (hX : Blk w g 61 xs) (hY : Blk w h 61 xs) (lx : xs.length = 32768) :
    Calls Try.prog 18 #[.pointer (some ⟨g, 0, none⟩), .pointer (some ⟨h, 0, none⟩)] w fun e w' => e = .returned (.slice none 0 0) ∧ w'.heap.size = w.heap.size ∧ Below w.heap.size w w' :=
  (diff_same g h xs w hX hY lx).mono fun _ _ ⟨he, n, hw⟩ => ⟨he, by rw [hw]; rfl, by rw [hw]; exact ⟨rfl, rfl, rfl, Nat.le_refl _, fun _ _ => rfl⟩⟩
theorem diff_none (g : Nat) (w : World) :
    Calls Try.prog 18 #[.pointer (some ⟨g, 0, none⟩), .pointer none] w fun e w' => e = .returned (.slice none 0 0) ∧ w'.heap.size = w.heap.size ∧ Below w.heap.size w w' :=
  (diff_nil g w).mono fun _ _ ⟨he, n, hw⟩ => ⟨he, by rw [hw]; rfl, by rw [hw]; exact ⟨rfl, rfl, rfl, Nat.le_refl _, fun _ _ => rfl⟩⟩
end Go.Proofs.Ytdkihhjhjfkjjaa
