/-
  The laws' Chunks: nine chunks of nine rows.
-/
import Derived.Test.YtjeapaojbkicmabDoorLmany
import Derived.Test.YtjeapaojbkicmabDoorLnine
import Derived.Test.YtjeapaojbkicmabDoorCFroms
set_option maxRecDepth 20000
namespace Go.Proofs.YtjeapaojbkicmabDoor
open C Go.RowKit L

theorem Pre.src {w : World} {g : Nat} {t : TypeId} {cs : List Int} (h : Pre w g t cs) (hk : Kinds cs) : Src w (some ⟨g, 0, none⟩) cs.length cs :=
  ⟨rfl, fun k hk' => ⟨g, 0, rfl, h.lt, by rw [Nat.zero_add]; exact h.cell hk'⟩, hk.bytes⟩
theorem kinds_bad {cs : List Int} (h : Kinds cs) : ∀ n, badTo cs n = false
  | 0 => rfl
  | n + 1 => by
    unfold badTo
    rw [kinds_bad h n, decide_eq_false (by have := h.at n; omega)]
    rfl
theorem kinds_may {cs : List Int} (h : Kinds cs) (hl : cs.length = 32768) : mayC cs = 0 := by
  unfold mayC
  rw [hl, if_neg (by omega), if_neg (by omega), kinds_bad h]
  rfl
set_option maxRecDepth 100000 in
set_option maxHeartbeats 1000000 in
theorem chunks_c (gn cn : Nat) (ga gc : Nat → Nat) (css : List (List Int)) (w : World) (hN : Nr w gn ga gc css) (hk : ∀ j, j < 9 → Kinds (css.getD j [])) :
    Calls Tryd.prog 6 #[.slice (some ⟨gn, 0, none⟩) 9 cn] w fun e w' => ∃ av cv gs, e = .returned (.slice av 9 cv) ∧ Many w 39 51 ptV (fun j => css.getD j []) 9 av cv gs w' := by
  obtain ⟨Post, hPost⟩ : ∃ Post : Ending → World → Prop, Post = fun e w' => ∃ av cv gs, e = .returned (.slice av 9 cv) ∧ Many w 39 51 ptV (fun j => css.getD j []) 9 av cv gs w' := ⟨_, rfl⟩
  rw [← hPost]
  have HP : Hid (∀ av cv gs w', Many w 39 51 ptV (fun j => css.getD j []) 9 av cv gs w' → Post (.returned (.slice av 9 cv)) w') := fun av cv gs w' h => by rw [hPost]; exact ⟨_, _, _, rfl, h⟩
  clear hPost
  have HR : Hid (Nr w gn ga gc css ∧ ∀ j, j < 9 → Kinds (css.getD j [])) := ⟨hN, hk⟩
  clear hN hk
  have H0 : Hid (Many w 39 51 ptV (fun j => css.getD j []) 0 none 0 [] w) := Many.init
  go_enter Tryd.func6, Tryd.ntmps6
  go_wp2
  go_loopw [3, 4] (fun vo vi wr => ∃ (i : Nat) (av : Option Addr) (cv : Nat), i ≤ 9 ∧ vo = .slice av i cv ∧ vi = .int .i64 (i : Int) ∧ Hid (∃ gs, Many w 39 51 ptV (fun j => css.getD j []) i av cv gs wr)) (fun _ vi _ => 9 - (intOf vi).toNat)
  case atStart => exact ⟨0, none, 0, by omega, rfl, rfl, _, H0.out⟩
  case round =>
    clear H0
    obtain ⟨i, av, cv, hi, rfl, rfl, HM⟩ := hrel
    by_cases hlt : i < 9
    case neg =>
      have hge : ¬ (i : Int) < 9 := by omega
      obtain rfl : i = 9 := by omega
      obtain ⟨gs, hM⟩ := HM.out
      have R := HP.out av cv gs wr hM
      clear HM HP HR hM
      go_wp2
      first | exact R | (go_ret; exact R)
    have hlt' : (i : Int) < 9 := by omega
    obtain ⟨gs, hM⟩ := HM.out
    have hN := HR.out.1
    have y0 : wr.cell? ⟨gn, i, none⟩ = some (.slice (some ⟨ga i, 0, none⟩) 32768 (gc i)) := by
      refine (hM.bel.cell (p := ⟨gn, i, none⟩) ?_).trans (hN.out i hlt)
      exact World.block_lt_of_cell? w _ (hN.out i hlt)
    have hpre : Pre wr (ga i) 5 (css.getD i []) := (hN.row i hlt).below hM.bel (hN.row i hlt).lt
    have hsrc := hpre.src (HR.out.2 i hlt)
    rw [hN.len i hlt] at hsrc
    have hmay : mayC (css.getD i []) = 0 := kinds_may (HR.out.2 i hlt) (HR.out.1.len i hlt)
    have hfrom := from_c (some ⟨ga i, 0, none⟩) 32768 (gc i) (css.getD i []) wr hsrc (by omega)
    rw [hmay] at hfrom
    have HMn : Hid (Many w 39 51 ptV (fun j => css.getD j []) i av cv gs wr) := hM
    clear HM hM HP hN hpre hsrc hmay
    go_wp2_with fail
    refine hfrom.mono ?_
    rintro _ w1 ⟨hb1, ⟨_, rfl, hB1⟩ | ⟨h0, _⟩⟩
    case inr => exact absurd rfl h0
    clear hfrom
    have HM1 : Hid (Many w 39 51 ptV (fun j => css.getD j []) i av cv gs (w1.alloc (.cells #[.pointer (some ⟨wr.heap.size, 0, none⟩)] 39)) ∧ Blk (w1.alloc (.cells #[.pointer (some ⟨wr.heap.size, 0, none⟩)] 39)) wr.heap.size 51 (css.getD i []) ∧ wr.heap.size ∉ gs ∧ w.heap.size ≤ wr.heap.size) := by
      have hm1 := HMn.out.on hb1
      have hb2 : Below w1.heap.size w1 (w1.alloc (.cells #[.pointer (some ⟨wr.heap.size, 0, none⟩)] 39)) := (Below.refl _ _).alloc (Nat.le_refl _) _
      exact ⟨hm1.on hb2, hB1.below hb2 hB1.lt, fun h => absurd (HMn.out.lt _ h) (Nat.lt_irrefl _), HMn.out.bel.size⟩
    clear HMn hB1 hb1 y0
    obtain ⟨g, hg⟩ : ∃ g, wr.heap.size = g := ⟨_, rfl⟩
    rw [hg] at HM1 ⊢
    clear hg
    go_wp2_with (at_builtin; refine wpList_append_val 26 39 _ _ Tryd.underlying26 info39 rfl (by omega) rfl _ _ rfl w.heap.size av i cv (gs.map ptV) rfl HM1.out.1.own ⟨w1.heap.size, 0, none⟩ (.pointer (some ⟨g, 0, none⟩)) rfl (cell_new _ _ _) rfl (by omega) HM1.out.1.bel.size ?_; intro a9 c9 w9 ho9 hg9; have HE : Hid (∃ gs, Many w 39 51 ptV (fun j => css.getD j []) (i + 1) a9 c9 gs w9) := ⟨_, HM1.out.1.add (by decide) HM1.out.2.1 HM1.out.2.2.2 HM1.out.2.2.1 ho9 hg9⟩; clear ho9 hg9)
    exact ⟨⟨i + 1, a9, c9, by omega, rfl, by simp, HE⟩, by simp [intOf]; omega⟩
end Go.Proofs.YtjeapaojbkicmabDoor
