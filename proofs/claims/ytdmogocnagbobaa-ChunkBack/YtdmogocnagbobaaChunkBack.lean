/-
  ChunkBackSaid is proved: for every slice of calls the statement ChunkBack returns true, without any condition.
-/
import Derived.Test.YtdmogocnagbobaaMores
import Derived.Deep.RegionWith
namespace Go.Proofs.Ytdmogocnagbobaa
open Go.ChangeShapes Go.WideShapes Go.ChangeAt Go.RowKit

set_option maxRecDepth 100000 in
set_option maxHeartbeats 4000000 in
theorem chunkBack_walk (p : Option Addr) (n cap : Nat) (l : List Op4) (w : World) (hO : Ops w p n l) :
    Calls Try.prog 7 #[.slice p n cap] w fun e w' => e = .returned (.bool true) ∧ Below w.heap.size w w' := by
  go_enter Try.func7, Try.ntmps7
  go_wp2_with fail
  refine (awake_c w).mono ?_
  rintro _ w1 ⟨rfl, hb1⟩
  go_wp2_with fail
  refine (plays_c p n cap l w1 (hO.on hb1)).mono ?_
  rintro _ w2 ⟨rfl, hC, hR, hb2⟩
  have R2 := hb1.trans (hb2.mono hb1.size)
  have hlen := playTo_length l (min n 400)
  have hkin := playTo_kinds l (min n 400)
  have hg : w.heap.size ≤ w1.heap.size := hb1.size
  have hgl : w1.heap.size < w2.heap.size := hC.lt
  have hrl : w1.heap.size + 1 < w2.heap.size := hR.lt
  generalize playTo l (min n 400) = cs at *
  clear hb1 hb2
  generalize w1.heap.size = g at *
  go_wp2_with fail
  refine (bytes_c g cs _ hC hlen).mono ?_
  rintro _ w3 ⟨rfl, hB3, hb3⟩
  have hC3 := hC.below hb3 hC.lt
  have R3 := R2.trans (hb3.mono R2.size)
  have hS := hB3.src hkin
  rw [hlen] at hS
  have hg3 : g < w3.heap.size := hC3.lt
  clear hC hR hb3 hB3 R2 hgl hrl
  go_wp2_with fail
  refine (made_c _ 32768 32768 cs _ hS (by omega) (hkin.may hlen)).mono ?_
  rintro _ w4 ⟨rfl, hD4, hb4⟩
  have hC4 := hC3.below hb4 hg3
  have R4 := R3.trans (hb4.mono R3.size)
  have hd4 : w3.heap.size < w4.heap.size := hD4.lt
  clear hS hC3 hb4 R3
  generalize w3.heap.size = d at *
  go_wp2_with fail
  go_region_with (first
    | (go_at_call 26; refine (diff_like g d cs _ (by exact hC4) (by exact hD4) hlen).mono ?_; rintro e w5 ⟨rfl, hs5, hb5⟩; have R5 := R4.drew.trans (hb5.mono R4.size); have hC5 : Blk w5 g 59 cs := Blk.below (by exact hC4) hb5 (by exact hC4.lt); have hD5 : Blk w5 d 59 cs := Blk.below (by exact hD4) hb5 (by exact hd4); clear hb5 hs5)
    | (go_at_call 16; have hz := hB6; clear hz; refine (bytes_c g cs _ (by exact hC6) hlen).mono ?_; rintro e w7 ⟨rfl, hB7, hb7⟩; have v7 : (convert 25 9 (.slice (some ⟨w6.heap.size, 0, none⟩) 32768 32768)).run Try.prog w7 = .ok (.string (strOfNums cs)) w7 := hB7.conv hlen hkin; have v8 : (convert 25 9 (.slice (some ⟨w5.heap.size, 0, none⟩) 32768 32768)).run Try.prog w7 = .ok (.string (strOfNums cs)) w7 := (Blk.below hB6 hb7 hB6.lt).conv hlen hkin; have R7 := R6.trans (hb7.mono R6.size); clear hb7 hB7)
    | (go_at_call 16; refine (bytes_c d cs _ (by exact hD5) hlen).mono ?_; rintro e w6 ⟨rfl, hB6, hb6⟩; have R6 := R5.trans (hb6.mono R5.size); have v6 : (convert 25 9 (.slice (some ⟨w5.heap.size, 0, none⟩) 32768 32768)).run Try.prog w6 = .ok (.string (strOfNums cs)) w6 := hB6.conv hlen hkin; have hC6 : Blk w6 g 59 cs := Blk.below (by exact hC5) hb6 (by exact hC5.lt); clear hb6))
  all_goals (go_wp2; go_ret; exact ⟨rfl, R7⟩)

set_option maxRecDepth 100000 in
theorem chunkBack_lifted (os : Os) (started : os.Started) (H : Type) (enc : TypeId × Value → H) :
    ReturnsInHanded {} Try.checked os 7 .any (Rows.chunkBackSpec.pre6 enc Try.prog Try.f7 Rows.chunkBackRow.domain false) (Rows.chunkBackSpec.post enc Try.prog Try.f7 false true false false) := by
  refine returnsInHanded_of_change (C := Try.checked) own started (by kernel_rfl) Try.func7
    (ChangeSpec.witness6 (enc := enc) (C := Try.checked) false ⟨#[], #[.slice none 0 0], []⟩ 8 (by kernel_rfl) (by kernel_rfl) (by kernel_rfl) (by kernel_rfl)) ?_
  intro W base args ds gs before hval0 hW _ _
  have hval : ∀ (j : Nat) t v, Try.f7.params[j]? = some t → args[j]? = some v → Value.okWide Try.prog W .any base t v := hval0
  have hW' := hW
  obtain ⟨p, q, hA0, hV, rfl, hfz, hnd⟩ := hW
  have hA : DataW.TrodAll enc Try.prog W 0 (fun _ => true) true Try.f7.params.toList args.toList ds p := hA0
  rw [Try.params7] at hA hval
  obtain ⟨v0, vs0, d0, ds0, p0, q0, hargs, rfl, rfl, h0, r0⟩ := trodAll_cons hA
  obtain ⟨rfl, rfl, rfl⟩ := trodAll_nil r0
  obtain rfl : args = #[v0] := by cases args; simp_all
  obtain ⟨rfl, rfl⟩ := trodVars_none hV
  obtain ⟨a_l, len_l, cap_l, rfl⟩ := okWide_slice Try.underlying22 (hval 0 22 v0 rfl rfl)
  have lt0 : ∀ x ∈ p0, x.block < W.heap.size := by obtain ⟨m, hm⟩ := h0; exact DataW.trod_lt m _ _ _ hm
  obtain ⟨l_l, O_l⟩ := open_ops h0
  clear hA0 hval0
  refine (chunkBack_walk a_l len_l cap_l l_l W O_l).mono fun e W' ⟨he, bel⟩ => ?_
  subst he
  exact ⟨_, rfl, _, _, _, [], _, [], hW', trodAll_mk1 (shut_bool Try.underlying4 _), (trodAll_cons_mk (Below.trod laidOut (by kernel_rfl) (of_decide_eq_true (by kernel_rfl)) h0 bel lt0) trodAll_mk0), rfl, bel.frame _, fun h => by cases h⟩

theorem chunkBack_holds : Rows.ChunkBackSaid :=
  OpenClaim.holds_of_wide 7 Try.f7 rfl rfl rfl rfl rfl rfl rfl ⟨rfl, rfl, rfl, rfl, rfl⟩ rfl rfl rfl rfl rfl (by kernel_rfl) Try.func7 (by kernel_rfl)
    (of_decide_eq_true (by kernel_rfl)) (by unfold Func.isWrapper; rw [if_neg (of_decide_eq_false (by kernel_rfl))]; exact ⟨rfl, rfl⟩)
    (fun os started H enc _ => chunkBack_lifted os started H enc)
#print axioms chunkBack_holds
end Go.Proofs.Ytdmogocnagbobaa
