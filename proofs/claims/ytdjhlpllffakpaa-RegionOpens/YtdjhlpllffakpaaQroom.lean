/-
  The program's space: Room and Largest, each a loop over the free spans.
-/
import Derived.Test.YtdjhlpllffakpaaQgaps
import Derived.Lib.MinMax
set_option maxRecDepth 20000
namespace Go.Proofs.Ytdjhlpllffakpaa.Q
open Go.RowKit Go.Shelf

attribute [local go_sem] Oper.semAt_some

set_option maxHeartbeats 1000000 in
theorem gaps_c (g : Nat) (w : World) : Calls Try.prog 47 #[.pointer (some ⟨g, 0, none⟩)] w fun e w' => e = .returned (.func (.func 53) #[] #[.pointer (some ⟨w.heap.size, 0, none⟩)]) ∧ w' = w.alloc (.cells #[.pointer (some ⟨g, 0, none⟩)] 85) := by
  have hmf : ∀ w, Sem.run Try.prog (Instr.makeFunc (.func 53) #[] #[.pointer (some ⟨w.heap.size, 0, none⟩)]) w = .ok (.func (.func 53) #[] #[.pointer (some ⟨w.heap.size, 0, none⟩)]) w := fun w => by rfl
  go_enter Try.func47, Try.ntmps47
  go_wp2
  go_ret
  exact ⟨rfl, rfl⟩

/-- A range over the free spans, for every body that leaves the space alone. -/
theorem gaps_stops (n : Nat) (hn : 1 ≤ n) (B g tb h : Nat) (T : List Bool) (w : World) (hB : w.heap[B]? = some (.cells #[.pointer (some ⟨g, 0, none⟩)] 85 (0, 0))) (hS : PS w g tb h T) :
    SeqStopsK Fence.wide n Try.prog 53 #[.pointer (some ⟨B, 0, none⟩)] (fun x : Q => #[Q.val x]) (Kq B g tb) (fun xs => qs xs = spansS h T) (fun pre => qs pre <+: spansS h T) 4096 w := fun l J Jx W hW _ _ hY h0 =>
  gaps1_c n hn l B g tb h T J Jx W hY ((hW.block B (Array.getElem?_eq_some_iff.1 hB).1).trans hB) (hS.on hW) h0
theorem room_qs (l : List Q) : roomS (qs l) ≤ l.length * 4096 := by
  induction l with
  | nil => simp [qs, roomS]
  | cons q l ih =>
    have := q.hm
    have e : roomS (qs (q :: l)) = q.m + roomS (qs l) := by simp [qs, roomS]
    rw [e, List.length_cons, Nat.add_mul]
    omega
theorem room_snoc (l : List Q) (q : Q) : roomS (qs (l ++ [q])) = roomS (qs l) + q.m := by simp [qs, roomS]
theorem large_snoc (l : List Q) (q : Q) : largeS (qs (l ++ [q])) = max (largeS (qs l)) q.m := by simp [qs, largeS]
theorem large_qs (l : List Q) : largeS (qs l) ≤ 4096 := by
  rcases (large_fold (qs l) 0).2.2 with h | ⟨x, hx, h⟩
  · unfold largeS; omega
  · unfold largeS
    rw [← h]
    simp only [qs, List.mem_map] at hx
    obtain ⟨q, _, rfl⟩ := hx
    exact q.hm

end Go.Proofs.Ytdjhlpllffakpaa.Q
