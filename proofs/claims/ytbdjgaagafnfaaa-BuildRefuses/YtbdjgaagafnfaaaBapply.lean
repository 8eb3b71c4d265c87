/-
  The document's thing: the feature of an origin.
  The document's Things: the features that may claim cells of a chunk.
  Bytes at the beginning of a block; painting by features, plainly.
  The document's Apply.
-/
import Derived.Test.YtbdjgaagafnfaaaBheld
import Derived.Maps.AppendAt
import Derived.Test.YtbdjgaagafnfaaaBclaim
import Derived.Test.YtbdjgaagafnfaaaCSame
import Derived.Laws.AppendOwnNone
set_option maxRecDepth 20000
namespace Go.Proofs.Ytbdjgaagafnfaaa
section
open C Go.RowKit

theorem and3 (n : Int) : bits .and .i64 n 3 = n % 4 := i64_mask 2 3 n (by decide) (by omega)
theorem new5 (w : World) (o0 o1 o2 o3 o4 : Obj) {w1 : World} (hb : Below (((((w.alloc o0).alloc o1).alloc o2).alloc o3).alloc o4).heap.size (((((w.alloc o0).alloc o1).alloc o2).alloc o3).alloc o4) w1) :
    w1.heap[w.heap.size]? = some o0 ∧ w1.heap[w.heap.size + 1]? = some o1 ∧ w1.heap[w.heap.size + 1 + 1]? = some o2 ∧ w1.heap[w.heap.size + 1 + 1 + 1]? = some o3 ∧ w1.heap[w.heap.size + 1 + 1 + 1 + 1]? = some o4 ∧ Below w.heap.size w w1 := by
  have s0 : (w.alloc o0).heap.size = w.heap.size + 1 := World.size_alloc _ _
  have s1 : ((w.alloc o0).alloc o1).heap.size = w.heap.size + 1 + 1 := by rw [World.size_alloc, s0]
  have s2 : (((w.alloc o0).alloc o1).alloc o2).heap.size = w.heap.size + 1 + 1 + 1 := by rw [World.size_alloc, s1]
  have s3 : ((((w.alloc o0).alloc o1).alloc o2).alloc o3).heap.size = w.heap.size + 1 + 1 + 1 + 1 := by rw [World.size_alloc, s2]
  have s4 : (((((w.alloc o0).alloc o1).alloc o2).alloc o3).alloc o4).heap.size = w.heap.size + 1 + 1 + 1 + 1 + 1 := by rw [World.size_alloc, s3]
  have a0 := heap_alloc_new w o0
  have a1 := heap_alloc_new (w.alloc o0) o1
  have a2 := heap_alloc_new ((w.alloc o0).alloc o1) o2
  have a3 := heap_alloc_new (((w.alloc o0).alloc o1).alloc o2) o3
  have a4 := heap_alloc_new ((((w.alloc o0).alloc o1).alloc o2).alloc o3) o4
  rw [s0] at a1
  rw [s1] at a2
  rw [s2] at a3
  rw [s3] at a4
  refine ⟨(hb.block _ (by omega)).trans ?_, (hb.block _ (by omega)).trans ?_, (hb.block _ (by omega)).trans ?_, (hb.block _ (by omega)).trans ?_, (hb.block _ (by omega)).trans ?_, ?_⟩
  · rw [heap_alloc_old _ o4 (by omega), heap_alloc_old _ o3 (by omega), heap_alloc_old _ o2 (by omega), heap_alloc_old _ o1 (by omega)]; exact a0
  · rw [heap_alloc_old _ o4 (by omega), heap_alloc_old _ o3 (by omega), heap_alloc_old _ o2 (by omega)]; exact a1
  · rw [heap_alloc_old _ o4 (by omega), heap_alloc_old _ o3 (by omega)]; exact a2
  · rw [heap_alloc_old _ o4 (by omega)]; exact a3
  · exact a4
  · exact (((((Below.refl _ w).alloc (Nat.le_refl _) o0).alloc (by omega) o1).alloc (by omega) o2).alloc (by omega) o3).alloc (by omega) o4 |>.trans (hb.mono (by omega))
theorem wrap_in (x : Int) (h0 : 0 ≤ x) (h1 : x < 9223372036854775808) : IntKind.i64.wrap x = x := by rw [IntKind.wrap_i64]; omega
theorem wrap64_in (x : Int) (h0 : 0 ≤ x) (h1 : x < 9223372036854775808) : wrap64 x = x := by unfold wrap64; omega
theorem shr_in (h n : Nat) (hn : 2 ≤ n) (hl : h < 18446744073709551616) : 0 ≤ (h : Int) / (n : Int) ∧ (h : Int) / (n : Int) < 9223372036854775808 := by
  have h1 : h / n ≤ h / 2 := Nat.div_le_div_left hn (by omega)
  have e : (h : Int) / (n : Int) = ((h / n : Nat) : Int) := by rw [Int.natCast_ediv]
  rw [e]
  generalize h / n = q at *
  omega
theorem set5_other {W : World} {B k : Nat} (h : k ≠ B) (v0 v1 v2 v3 v4 : Value) : (set5 W B v0 v1 v2 v3 v4).heap[k]? = W.heap[k]? := by
  unfold set5
  rw [Below.heap_setCell _ ⟨B, 4, none⟩ _ _ h, Below.heap_setCell _ ⟨B, 3, none⟩ _ _ h, Below.heap_setCell _ ⟨B, 2, none⟩ _ _ h, Below.heap_setCell _ ⟨B, 1, none⟩ _ _ h, Below.heap_setCell _ ⟨B, 0, none⟩ _ _ h]
def five (v0 v1 v2 v3 v4 : Int) : Value := .agg #[.int .i64 v0, .int .i64 v1, .int .i64 v2, .int .i64 v3, .int .i64 v4]
/-- What the feature of an origin is told as. -/
def RtSay (o : Option Thing) (w : World) (e : Ending) (w' : World) : Prop :=
  Below w.heap.size w w' ∧ ∃ v0 v1 v2 v3 v4 : Int, e = .returned (.tuple #[.agg #[.int .i64 v0, .int .i64 v1, .int .i64 v2, .int .i64 v3, .int .i64 v4], .bool o.isSome]) ∧ ∀ t, o = some t → v0 = (t.s : Int) ∧ v1 = t.x ∧ v2 = t.z ∧ v3 = t.h ∧ v4 = t.l
set_option maxRecDepth 100000 in
set_option maxHeartbeats 4000000 in
theorem rthing0_c (S : Nat) (cx cz ox oz : Int) (a a' : Option Addr) (c c' : Nat) (hs bs : List (List Int)) (w : World) (hS : S < 18446744073709551616) (hx : -10000000000000 ≤ ox ∧ ox ≤ 10000000000000) (hz : -10000000000000 ≤ oz ∧ oz ≤ 10000000000000) (hcx : -1000000000000000 ≤ cx ∧ cx ≤ 1000000000000000) (hcz : -1000000000000000 ≤ cz ∧ cz ≤ 1000000000000000)
    (hH : Rows2 w a hs) (hB : Rows2 w a' bs) (oH : okG 128 hs) (oB : okG 4 bs) :
    Calls Try.prog 32 #[.int .u64 S, .agg #[.int .i64 cx, .int .i64 cz], .slice a 9 c, .slice a' 9 c', .int .i64 0, .int .i64 ox, .int .i64 oz] w (RtSay (thingN S 0 cx cz hs bs ox oz) w) := by
  have hTe : thingN S 0 cx cz hs bs ox oz = thingH 0 (R.hashN S 41 ox 0 oz) cx cz hs bs ox oz := rfl
  rw [hTe]
  clear hTe
  have hlt := R.hashN_lt S 41 ox 0 oz
  have hh := fun w => R.rhash_any S 41 ox 0 oz w hS
  generalize R.hashN S 41 ox 0 oz = h at *
  have hb := fun w => R.rbelow_any h 100 w hlt (by omega)
  obtain ⟨Post, hPost⟩ : ∃ Post : Ending → World → Prop, Post = RtSay (thingH 0 h cx cz hs bs ox oz) w := ⟨_, rfl⟩
  rw [← hPost]
  have HP : Hid (∀ e w', RtSay (thingH 0 h cx cz hs bs ox oz) w e w' → Post e w') := fun e w' h => by rw [hPost]; exact h
  clear hPost
  have Hbv : Hid (∀ b : Int, R.belowN h 100 = b → ∀ t, thingH 0 h cx cz hs bs ox oz = some t → b < 35) := fun b e t ht => by rw [← e]; exact (thing_is ht).2.1
  have Hth : Hid (thingH 0 h cx cz hs bs ox oz = if (decide (R.belowN h 100 < 35) && nearB cx cz (colX 0 h ox) (colZ 0 h oz) && standB 0 h (gAt cx cz hs (colX 0 h ox) (colZ 0 h oz)) (gAt cx cz bs (colX 0 h ox) (colZ 0 h oz))) = true then some ⟨0, colX 0 h ox, colZ 0 h oz, gAt cx cz hs (colX 0 h ox) (colZ 0 h oz), lenT h⟩ else none) := rfl
  have HHs : Hid (Rows2 w a hs ∧ okG 128 hs) := ⟨hH, oH⟩
  have HBs : Hid (Rows2 w a' bs ∧ okG 4 bs) := ⟨hB, oB⟩
  obtain ⟨bv, hbv⟩ : ∃ b : Int, R.belowN h 100 = b := ⟨_, rfl⟩
  rw [hbv] at hb Hth
  have Hb : Hid (∀ w, Calls Try.prog 52 #[.int .u64 (h : Int), .int .i64 100] w fun e w' => e = .returned (.int .i64 bv) ∧ Below w.heap.size w w') := fun w => (hb w).mono fun _ _ ⟨h1, e⟩ => ⟨h1, by rw [e]; exact Below.refl _ _⟩
  clear hb hbv Hbv hH hB oH oB
  obtain ⟨x0, x1⟩ := hx
  obtain ⟨z0, z1⟩ := hz
  go_enter Try.func32, Try.ntmps32
  go_wp2_with fail
  refine (hh _).mono ?_
  clear hh
  rintro _ w1 ⟨rfl, hb1⟩
  obtain ⟨hX1, hO1, _, hS1, hM1, hbw⟩ := new5 w _ _ _ _ _ hb1
  have HX1 : Hid (w1.heap[w.heap.size]? = some (.cells #[.int .i64 cx, .int .i64 cz] 31 (0, 0))) := hX1
  have HO1 : Hid (w1.heap[w.heap.size + 1]? = some (.cells #[.int .i64 0, .int .i64 0, .int .i64 0, .int .i64 0, .int .i64 0] 50 (0, 0))) := hO1
  have HS1 : Hid (w1.heap[w.heap.size + 1 + 1 + 1]? = some (.cells #[.int .i64 32, .int .i64 16, .int .i64 8] 81 (0, 0))) := hS1
  have HB1 : Hid (Below w.heap.size w w1) := hbw
  have hsome := since_some w1
  have k0 := fun s : Since w1 => Since.cell ((cell_of_row w1 (w.heap.size + 1 + 1 + 1 + 1) 0 _ 81 (0, 0) hM1).trans rfl) s
  clear hb1 hX1 hO1 hS1 hbw
  go_wp2_with fail
  refine wp_region_since (by kernel_rfl) (by kernel_rfl) ?_
  repeat (go_big_quiet_step (first | (go_at_call 52; exact Calls.since (Hb.out _))))
  refine wpQuiet_nil ?_
  rintro _ ⟨s, rfl⟩
  have HB2 : Hid (Below w.heap.size w s.w) := HB1.out.trans (s.bel.mono HB1.out.size)
  have HX2 : Hid (s.w.heap[w.heap.size]? = some (.cells #[.int .i64 cx, .int .i64 cz] 31 (0, 0))) := (s.bel.block _ (Array.getElem?_eq_some_iff.1 HX1.out).1).trans HX1.out
  have HO2 : Hid (s.w.heap[w.heap.size + 1]? = some (.cells #[.int .i64 0, .int .i64 0, .int .i64 0, .int .i64 0, .int .i64 0] 50 (0, 0))) := (s.bel.block _ (Array.getElem?_eq_some_iff.1 HO1.out).1).trans HO1.out
  have HS2 : Hid (s.w.heap[w.heap.size + 1 + 1 + 1]? = some (.cells #[.int .i64 32, .int .i64 16, .int .i64 8] 81 (0, 0))) := (s.bel.block _ (Array.getElem?_eq_some_iff.1 HS1.out).1).trans HS1.out
  generalize s.w = W2 at *
  clear hsome k0 HB1 HX1 HO1 HS1 hM1
  by_cases hbv : bv < 35
  case neg =>
    have hbv' : 35 ≤ bv := by omega
    have c0 : W2.cell? ⟨w.heap.size + 1, 0, none⟩ = some (.int .i64 0) := (cell_of_row W2 (w.heap.size + 1) 0 _ 50 (0, 0) HO2.out).trans rfl
    have f0 : W2.frozen? ⟨w.heap.size + 1, 0, none⟩ = false := frozen_of_row W2 (w.heap.size + 1) 0 _ 50 HO2.out
    have c1 : W2.cell? ⟨w.heap.size + 1, 1, none⟩ = some (.int .i64 0) := (cell_of_row W2 (w.heap.size + 1) 1 _ 50 (0, 0) HO2.out).trans rfl
    have f1 : W2.frozen? ⟨w.heap.size + 1, 1, none⟩ = false := frozen_of_row W2 (w.heap.size + 1) 1 _ 50 HO2.out
    have c2 : W2.cell? ⟨w.heap.size + 1, 2, none⟩ = some (.int .i64 0) := (cell_of_row W2 (w.heap.size + 1) 2 _ 50 (0, 0) HO2.out).trans rfl
    have f2 : W2.frozen? ⟨w.heap.size + 1, 2, none⟩ = false := frozen_of_row W2 (w.heap.size + 1) 2 _ 50 HO2.out
    have c3 : W2.cell? ⟨w.heap.size + 1, 3, none⟩ = some (.int .i64 0) := (cell_of_row W2 (w.heap.size + 1) 3 _ 50 (0, 0) HO2.out).trans rfl
    have f3 : W2.frozen? ⟨w.heap.size + 1, 3, none⟩ = false := frozen_of_row W2 (w.heap.size + 1) 3 _ 50 HO2.out
    have c4 : W2.cell? ⟨w.heap.size + 1, 4, none⟩ = some (.int .i64 0) := (cell_of_row W2 (w.heap.size + 1) 4 _ 50 (0, 0) HO2.out).trans rfl
    have f4 : W2.frozen? ⟨w.heap.size + 1, 4, none⟩ = false := frozen_of_row W2 (w.heap.size + 1) 4 _ 50 HO2.out
    have R := HP.out _ _ (show RtSay (thingH 0 h cx cz hs bs ox oz) w (.returned (.tuple #[.agg #[.int .i64 0, .int .i64 0, .int .i64 0, .int .i64 0, .int .i64 0], .bool false])) (set5 W2 (w.heap.size + 1) (.int .i64 0) (.int .i64 0) (.int .i64 0) (.int .i64 0) (.int .i64 0)) from by
      have hn : thingH 0 h cx cz hs bs ox oz = none := by rw [Hth.out, decide_eq_false hbv]; rfl
      rw [hn]
      exact ⟨set5_below HB2.out _ _ _ _ _, 0, 0, 0, 0, 0, rfl, fun t ht => by cases ht⟩)
    have HS5 : Hid ((set5 W2 (w.heap.size + 1) (.int .i64 0) (.int .i64 0) (.int .i64 0) (.int .i64 0) (.int .i64 0)).heap[w.heap.size + 1]? = some (.cells #[.int .i64 0, .int .i64 0, .int .i64 0, .int .i64 0, .int .i64 0] 50 (0, 0))) := set5_row HO2.out _ _ _ _ _
    clear HP Hth HHs HBs HB2 HX2 HO2 HS2 Hb
    go_wp2
    exact bodyPost_ret (results_row_tmp (p := 14) (u := 15) (ty := 50) rfl _ _ (w.heap.size + 1) 50 _ (0, 0) _ rfl HS5.out Try.underlying50 rfl (by kernel_rfl)) rfl R
  have hbv' : ¬ 35 ≤ bv := by omega
  have Hth2 : Hid (thingH 0 h cx cz hs bs ox oz = if (nearB cx cz (colX 0 h ox) (colZ 0 h oz) && standB 0 h (gAt cx cz hs (colX 0 h ox) (colZ 0 h oz)) (gAt cx cz bs (colX 0 h ox) (colZ 0 h oz))) = true then some ⟨0, colX 0 h ox, colZ 0 h oz, gAt cx cz hs (colX 0 h ox) (colZ 0 h oz), lenT h⟩ else none) := by show _ = _; rw [Hth.out, decide_eq_true hbv, Bool.true_and]
  clear Hth Hb hbv
  have e4 : bits .and .i64 ((h : Int) / 65536) 3 = ((h / 65536 % 4 : Nat) : Int) := by rw [and3]; omega
  have HL : Hid (lenT h = 4 + ((h / 65536 % 4 : Nat) : Int)) := rfl
  have b4 : h / 65536 % 4 < 4 := Nat.mod_lt _ (by omega)
  generalize h / 65536 % 4 = M4 at *
  obtain ⟨lt, hlt4⟩ : ∃ l : Int, (4 : Int) + (M4 : Int) = l := ⟨_, rfl⟩
  have wl : IntKind.i64.wrap (4 + (M4 : Int)) = lt := by rw [IntKind.wrap_i64]; omega
  rw [hlt4] at HL
  have wx : IntKind.i64.wrap (32 * ox) = 32 * ox := by rw [IntKind.wrap_i64]; omega
  have wz : IntKind.i64.wrap (32 * oz) = 32 * oz := by rw [IntKind.wrap_i64]; omega
  have hcw2 : IntKind.i64.wrap ((h : Int) / 65536) = (h : Int) / 65536 := wrap_in _ (shr_in h 65536 (by omega) hlt).1 (shr_in h 65536 (by omega) hlt).2
  clear hlt4
  go_wp2_with fail
  refine region_L (fun w' => Below W2.heap.size W2 w') 19 (by kernel_rfl) ?_
  have hHeld : Below W2.heap.size W2 W2.drew := (Below.refl _ _).drew
  have HB3 : Hid (Below w.heap.size w W2.drew) := HB2.out.drew
  have HX3 : Hid (W2.drew.heap[w.heap.size]? = some (.cells #[.int .i64 cx, .int .i64 cz] 31 (0, 0))) := HX2.out
  have HO3 : Hid (W2.drew.heap[w.heap.size + 1]? = some (.cells #[.int .i64 0, .int .i64 0, .int .i64 0, .int .i64 0, .int .i64 0] 50 (0, 0))) := HO2.out
  have k0 : ∀ s : Sub (fun w' => Below W2.heap.size W2 w'), s.w.cell? ⟨w.heap.size + 1 + 1 + 1, 0, none⟩ = some (.int .i64 32) := fun s => cell_below ((cell_of_row W2 (w.heap.size + 1 + 1 + 1) 0 _ 81 (0, 0) HS2.out).trans rfl) s.ok
  have hne : Nonempty (Sub (fun w' => Below W2.heap.size W2 w')) := ⟨⟨_, hHeld⟩⟩
  clear HB2 HX2 HO2
  generalize W2.drew = W3 at *
  refine take_L (i := 0) rfl (by kernel_rfl) (by kernel_rfl) (by kernel_rfl) (by kernel_rfl) (fun _ _ _ _ h => h) (by exact hHeld) (fun K hK => ?_)
  go_simp
  refine hK _ ?_
  clear hK K
  refine take_L (i := 1) rfl (by kernel_rfl) (by kernel_rfl) (by kernel_rfl) (by kernel_rfl) (fun _ _ _ _ h => h) (by exact hHeld) (fun K hK => ?_)
  go_simp
  refine hK _ ?_
  clear hK K
  refine take_L (i := 2) rfl (by kernel_rfl) (by kernel_rfl) (by kernel_rfl) (by kernel_rfl) (fun _ _ _ _ h => h) (by exact hHeld) (fun K hK => ?_)
  go_simp
  refine hK _ ?_
  clear hK K
  refine take_L (i := 3) rfl (by kernel_rfl) (by kernel_rfl) (by kernel_rfl) (by kernel_rfl) (fun _ _ _ _ h => h) (by exact hHeld) (fun K hK => ?_)
  go_simp
  refine hK _ ?_
  clear hK K
  refine take_L (i := 4) rfl (by kernel_rfl) (by kernel_rfl) (by kernel_rfl) (by kernel_rfl) (fun _ _ _ _ h => h) (by exact hHeld) (fun K hK => ?_)
  go_simp
  refine hK _ ?_
  clear hK K
  refine take_L (i := 5) rfl (by kernel_rfl) (by kernel_rfl) (by kernel_rfl) (by kernel_rfl) (fun _ _ _ _ h => h) (by exact hHeld) (fun K hK => ?_)
  go_simp
  refine hK _ ?_
  clear hK K
  refine take_L (i := 6) rfl (by kernel_rfl) (by kernel_rfl) (by kernel_rfl) (by kernel_rfl) (fun _ _ _ _ h => h) (by exact hHeld) (fun K hK => ?_)
  go_simp
  refine hK _ ?_
  clear hK K
  refine take_L (i := 7) rfl (by kernel_rfl) (by kernel_rfl) (by kernel_rfl) (by kernel_rfl) (fun _ _ _ _ h => h) (by exact hHeld) (fun K hK => ?_)
  go_simp
  refine hK _ ?_
  clear hK K
  refine take_L (i := 8) rfl (by kernel_rfl) (by kernel_rfl) (by kernel_rfl) (by kernel_rfl) (fun _ _ _ _ h => h) (by exact hHeld) (fun K hK => ?_)
  go_simp
  refine hK _ ?_
  clear hK K
  refine take_L (i := 9) rfl (by kernel_rfl) (by kernel_rfl) (by kernel_rfl) (by kernel_rfl) (fun _ _ _ _ h => h) (by exact hHeld) (fun K hK => ?_)
  go_simp
  refine hK _ ?_
  clear hK K
  refine take_L (i := 10) rfl (by kernel_rfl) (by kernel_rfl) (by kernel_rfl) (by kernel_rfl) (fun _ _ _ _ h => h) (by exact hHeld) (fun K hK => ?_)
  go_simp
  refine hK _ ?_
  clear hK K
  refine take_L (i := 11) rfl (by kernel_rfl) (by kernel_rfl) (by kernel_rfl) (by kernel_rfl) (fun _ _ _ _ h => h) (by exact hHeld) (fun K hK => ?_)
  go_simp
  refine hK _ ?_
  clear hK K
  refine take_L (i := 12) rfl (by kernel_rfl) (by kernel_rfl) (by kernel_rfl) (by kernel_rfl) (fun _ _ _ _ h => h) (by exact hHeld) (fun K hK => ?_)
  go_simp
  refine hK _ ?_
  clear hK K
  refine take_L (i := 13) rfl (by kernel_rfl) (by kernel_rfl) (by kernel_rfl) (by kernel_rfl) (fun _ _ _ _ h => h) (by exact hHeld) (fun K hK => ?_)
  go_simp
  refine hK _ ?_
  clear hK K
  refine take_L (i := 14) rfl (by kernel_rfl) (by kernel_rfl) (by kernel_rfl) (by kernel_rfl) (fun _ _ _ _ h => h) (by exact hHeld) (fun K hK => ?_)
  go_simp
  refine hK _ ?_
  clear hK K
  refine take_L (i := 15) rfl (by kernel_rfl) (by kernel_rfl) (by kernel_rfl) (by kernel_rfl) (fun _ _ _ _ h => h) (by exact hHeld) (fun K hK => ?_)
  go_simp
  refine hK _ ?_
  clear hK K
  refine take_L (i := 16) rfl (by kernel_rfl) (by kernel_rfl) (by kernel_rfl) (by kernel_rfl) (fun _ _ _ _ h => h) (by exact hHeld) (fun K hK => ?_)
  go_simp
  refine hK _ ?_
  clear hK K
  refine one_L (i := 17) (by kernel_rfl) rfl (fun K hK => ?_)
  go_simp
  have Hv2 : Hid (W2.heap.size ≤ W3.heap.size) := hHeld.size
  replace hHeld : Below W2.heap.size W2 (W3.alloc (.cells #[.int .i64 0, .int .i64 0, .int .i64 0, .int .i64 0, .int .i64 0] 50)) := hHeld.alloc hHeld.size _
  refine hK.out _ _ (fun _ => hHeld) ?_
  clear hK K k0 hne wx wz wl hcw2 e4
  have HB4 : Hid (Below w.heap.size w (W3.alloc (.cells #[.int .i64 0, .int .i64 0, .int .i64 0, .int .i64 0, .int .i64 0] 50))) := HB3.out.alloc HB3.out.size _
  have HX4 : Hid ((W3.alloc (.cells #[.int .i64 0, .int .i64 0, .int .i64 0, .int .i64 0, .int .i64 0] 50)).heap[w.heap.size]? = some (.cells #[.int .i64 cx, .int .i64 cz] 31 (0, 0))) := (heap_alloc_old W3 _ (Array.getElem?_eq_some_iff.1 HX3.out).1).trans HX3.out
  have HO4 : Hid ((W3.alloc (.cells #[.int .i64 0, .int .i64 0, .int .i64 0, .int .i64 0, .int .i64 0] 50)).heap[w.heap.size + 1]? = some (.cells #[.int .i64 0, .int .i64 0, .int .i64 0, .int .i64 0, .int .i64 0] 50 (0, 0))) := (heap_alloc_old W3 _ (Array.getElem?_eq_some_iff.1 HO3.out).1).trans HO3.out
  have HV4 : Hid ((W3.alloc (.cells #[.int .i64 0, .int .i64 0, .int .i64 0, .int .i64 0, .int .i64 0] 50)).heap[W3.heap.size]? = some (.cells #[.int .i64 0, .int .i64 0, .int .i64 0, .int .i64 0, .int .i64 0] 50 (0, 0))) := heap_alloc_new W3 _
  have Hvb : Hid (w.heap.size + 1 < W3.heap.size) := (Array.getElem?_eq_some_iff.1 HO3.out).1
  generalize W3.alloc _ = W4 at *
  generalize W3.heap.size = vb at *
  clear HB3 HX3 HO3 W3
  have c0 : W4.cell? ⟨vb, 0, none⟩ = some (.int .i64 0) := (cell_of_row W4 vb 0 _ 50 (0, 0) HV4.out).trans rfl
  have f0 : W4.frozen? ⟨vb, 0, none⟩ = false := frozen_of_row W4 vb 0 _ 50 HV4.out
  have c1 : W4.cell? ⟨vb, 1, none⟩ = some (.int .i64 0) := (cell_of_row W4 vb 1 _ 50 (0, 0) HV4.out).trans rfl
  have f1 : W4.frozen? ⟨vb, 1, none⟩ = false := frozen_of_row W4 vb 1 _ 50 HV4.out
  have c2 : W4.cell? ⟨vb, 2, none⟩ = some (.int .i64 0) := (cell_of_row W4 vb 2 _ 50 (0, 0) HV4.out).trans rfl
  have f2 : W4.frozen? ⟨vb, 2, none⟩ = false := frozen_of_row W4 vb 2 _ 50 HV4.out
  have c3 : W4.cell? ⟨vb, 3, none⟩ = some (.int .i64 0) := (cell_of_row W4 vb 3 _ 50 (0, 0) HV4.out).trans rfl
  have f3 : W4.frozen? ⟨vb, 3, none⟩ = false := frozen_of_row W4 vb 3 _ 50 HV4.out
  have c4 : W4.cell? ⟨vb, 4, none⟩ = some (.int .i64 0) := (cell_of_row W4 vb 4 _ 50 (0, 0) HV4.out).trans rfl
  have f4 : W4.frozen? ⟨vb, 4, none⟩ = false := frozen_of_row W4 vb 4 _ 50 HV4.out
  refine one_L (i := 18) (by kernel_rfl) rfl (fun K hK => ?_)
  go_simp
  refine hK.out _ _ (fun _ => set5_below hHeld _ _ _ _ _ Hv2.out) ?_
  clear hK K
  refine done_L (by kernel_rfl) ?_ _
  have HV5 : Hid ((set5 W4 vb (.int .i64 0) (.int .i64 (32 * ox)) (.int .i64 (32 * oz)) (.int .i64 0) (.int .i64 lt)).heap[vb]? = some (.cells #[.int .i64 0, .int .i64 (32 * ox), .int .i64 (32 * oz), .int .i64 0, .int .i64 lt] 50 (0, 0))) := set5_row HV4.out _ _ _ _ _
  have HX5 : Hid ((set5 W4 vb (.int .i64 0) (.int .i64 (32 * ox)) (.int .i64 (32 * oz)) (.int .i64 0) (.int .i64 lt)).heap[w.heap.size]? = some (.cells #[.int .i64 cx, .int .i64 cz] 31 (0, 0))) := (set5_other (by have := Hvb.out; omega) _ _ _ _ _).trans HX4.out
  have HO5 : Hid ((set5 W4 vb (.int .i64 0) (.int .i64 (32 * ox)) (.int .i64 (32 * oz)) (.int .i64 0) (.int .i64 lt)).heap[w.heap.size + 1]? = some (.cells #[.int .i64 0, .int .i64 0, .int .i64 0, .int .i64 0, .int .i64 0] 50 (0, 0))) := (set5_other (by have := Hvb.out; omega) _ _ _ _ _).trans HO4.out
  have HB5 : Hid (Below w.heap.size w (set5 W4 vb (.int .i64 0) (.int .i64 (32 * ox)) (.int .i64 (32 * oz)) (.int .i64 0) (.int .i64 lt))) := set5_below HB4.out _ _ _ _ _ (by have := Hvb.out; omega)
  unfold set5 at HV5 HX5 HO5 HB5
  generalize ((((W4.setCell ⟨vb, 0, none⟩ (.int .i64 0)).setCell ⟨vb, 1, none⟩ (.int .i64 (32 * ox))).setCell ⟨vb, 2, none⟩ (.int .i64 (32 * oz))).setCell ⟨vb, 3, none⟩ (.int .i64 0)).setCell ⟨vb, 4, none⟩ (.int .i64 lt) = W5 at *
  clear c0 c1 c2 c3 c4 f0 f1 f2 f3 f4 HV4 HX4 HO4 HB4 hHeld Hv2 HS2 W4
  have c0 : W5.cell? ⟨vb, 0, none⟩ = some (.int .i64 0) := (cell_of_row W5 vb 0 _ 50 (0, 0) HV5.out).trans rfl
  have f0 : W5.frozen? ⟨vb, 0, none⟩ = false := frozen_of_row W5 vb 0 _ 50 HV5.out
  have c1 : W5.cell? ⟨vb, 1, none⟩ = some (.int .i64 (32 * ox)) := (cell_of_row W5 vb 1 _ 50 (0, 0) HV5.out).trans rfl
  have f1 : W5.frozen? ⟨vb, 1, none⟩ = false := frozen_of_row W5 vb 1 _ 50 HV5.out
  have c2 : W5.cell? ⟨vb, 2, none⟩ = some (.int .i64 (32 * oz)) := (cell_of_row W5 vb 2 _ 50 (0, 0) HV5.out).trans rfl
  have f2 : W5.frozen? ⟨vb, 2, none⟩ = false := frozen_of_row W5 vb 2 _ 50 HV5.out
  have c3 : W5.cell? ⟨vb, 3, none⟩ = some (.int .i64 0) := (cell_of_row W5 vb 3 _ 50 (0, 0) HV5.out).trans rfl
  have f3 : W5.frozen? ⟨vb, 3, none⟩ = false := frozen_of_row W5 vb 3 _ 50 HV5.out
  have c4 : W5.cell? ⟨vb, 4, none⟩ = some (.int .i64 lt) := (cell_of_row W5 vb 4 _ 50 (0, 0) HV5.out).trans rfl
  have f4 : W5.frozen? ⟨vb, 4, none⟩ = false := frozen_of_row W5 vb 4 _ 50 HV5.out
  have e1 : bits .and .i64 ((h : Int) / 256) 15 = ((h / 256 % 16 : Nat) : Int) := by rw [and15]; omega
  have e2 : bits .and .i64 ((h : Int) / 4096) 15 = ((h / 4096 % 16 : Nat) : Int) := by rw [and15]; omega
  have HcX : Hid (colX 0 h ox = 32 * ox + ((h / 256 % 16 : Nat) : Int) + 8) := rfl
  have HcZ : Hid (colZ 0 h oz = 32 * oz + ((h / 4096 % 16 : Nat) : Int) + 8) := rfl
  have b1 : h / 256 % 16 < 16 := Nat.mod_lt _ (by omega)
  have b2 : h / 4096 % 16 < 16 := Nat.mod_lt _ (by omega)
  generalize h / 256 % 16 = M1 at *
  generalize h / 4096 % 16 = M2 at *
  have k0 : W5.cell? ⟨w.heap.size, 0, none⟩ = some (.int .i64 cx) := (cell_of_row W5 w.heap.size 0 _ 31 (0, 0) HX5.out).trans rfl
  have k1 : W5.cell? ⟨w.heap.size, 1, none⟩ = some (.int .i64 cz) := (cell_of_row W5 w.heap.size 1 _ 31 (0, 0) HX5.out).trans rfl
  have hnv : ¬ w.heap.size = vb := by have := Hvb.out; omega
  have hn0 : Hid (w.heap.size ≠ vb) := hnv
  have hn1 : Hid (w.heap.size + 1 ≠ vb) := by show _ ≠ _; have := Hvb.out; omega
  go_upto_region 13 with fail
  have HV6 : Hid (((W5.setCell ⟨vb, 1, none⟩ (.int .i64 (32 * ox + (M1 : Int)))).setCell ⟨vb, 2, none⟩ (.int .i64 (32 * oz + (M2 : Int)))).heap[vb]? = some (.cells #[.int .i64 0, .int .i64 (32 * ox + (M1 : Int)), .int .i64 (32 * oz + (M2 : Int)), .int .i64 0, .int .i64 lt] 50 (0, 0))) := by show _ = _; rw [heap_setCell_same _ vb 2 _ 50 _ (heap_setCell_same W5 vb 1 _ 50 _ HV5.out)]; rfl
  have HX6 : Hid (((W5.setCell ⟨vb, 1, none⟩ (.int .i64 (32 * ox + (M1 : Int)))).setCell ⟨vb, 2, none⟩ (.int .i64 (32 * oz + (M2 : Int)))).heap[w.heap.size]? = some (.cells #[.int .i64 cx, .int .i64 cz] 31 (0, 0))) := by show _ = _; rw [Below.heap_setCell _ ⟨vb, 2, none⟩ _ w.heap.size hn0.out, Below.heap_setCell _ ⟨vb, 1, none⟩ _ w.heap.size hn0.out]; exact HX5.out
  have HO6 : Hid (((W5.setCell ⟨vb, 1, none⟩ (.int .i64 (32 * ox + (M1 : Int)))).setCell ⟨vb, 2, none⟩ (.int .i64 (32 * oz + (M2 : Int)))).heap[w.heap.size + 1]? = some (.cells #[.int .i64 0, .int .i64 0, .int .i64 0, .int .i64 0, .int .i64 0] 50 (0, 0))) := by show _ = _; rw [Below.heap_setCell _ ⟨vb, 2, none⟩ _ (w.heap.size + 1) hn1.out, Below.heap_setCell _ ⟨vb, 1, none⟩ _ (w.heap.size + 1) hn1.out]; exact HO5.out
  have HB6 : Hid (Below w.heap.size w ((W5.setCell ⟨vb, 1, none⟩ (.int .i64 (32 * ox + (M1 : Int)))).setCell ⟨vb, 2, none⟩ (.int .i64 (32 * oz + (M2 : Int))))) := (HB5.out.setCell (p := ⟨vb, 1, none⟩) (by have := Hvb.out; show w.heap.size ≤ vb; omega) _).setCell (p := ⟨vb, 2, none⟩) (by have := Hvb.out; show w.heap.size ≤ vb; omega) _
  generalize (W5.setCell ⟨vb, 1, none⟩ (.int .i64 (32 * ox + (M1 : Int)))).setCell ⟨vb, 2, none⟩ (.int .i64 (32 * oz + (M2 : Int))) = W6 at *
  clear HV5 HX5 HO5 HB5
  clear c0 c1 c2 c3 c4 f0 f1 f2 f3 f4 k0 k1 W5
  have c1 : W6.cell? ⟨vb, 1, none⟩ = some (.int .i64 (32 * ox + (M1 : Int))) := (cell_of_row W6 vb 1 _ 50 (0, 0) HV6.out).trans rfl
  have f1 : W6.frozen? ⟨vb, 1, none⟩ = false := frozen_of_row W6 vb 1 _ 50 HV6.out
  have c2 : W6.cell? ⟨vb, 2, none⟩ = some (.int .i64 (32 * oz + (M2 : Int))) := (cell_of_row W6 vb 2 _ 50 (0, 0) HV6.out).trans rfl
  have f2 : W6.frozen? ⟨vb, 2, none⟩ = false := frozen_of_row W6 vb 2 _ 50 HV6.out
  go_upto_region 16 with fail
  have HV7 : Hid (((W6.setCell ⟨vb, 1, none⟩ (.int .i64 (32 * ox + (M1 : Int) + 8))).setCell ⟨vb, 2, none⟩ (.int .i64 (32 * oz + (M2 : Int) + 8))).heap[vb]? = some (.cells #[.int .i64 0, .int .i64 (32 * ox + (M1 : Int) + 8), .int .i64 (32 * oz + (M2 : Int) + 8), .int .i64 0, .int .i64 lt] 50 (0, 0))) := by show _ = _; rw [heap_setCell_same _ vb 2 _ 50 _ (heap_setCell_same W6 vb 1 _ 50 _ HV6.out)]; rfl
  have HX7 : Hid (((W6.setCell ⟨vb, 1, none⟩ (.int .i64 (32 * ox + (M1 : Int) + 8))).setCell ⟨vb, 2, none⟩ (.int .i64 (32 * oz + (M2 : Int) + 8))).heap[w.heap.size]? = some (.cells #[.int .i64 cx, .int .i64 cz] 31 (0, 0))) := by show _ = _; rw [Below.heap_setCell _ ⟨vb, 2, none⟩ _ w.heap.size hn0.out, Below.heap_setCell _ ⟨vb, 1, none⟩ _ w.heap.size hn0.out]; exact HX6.out
  have HO7 : Hid (((W6.setCell ⟨vb, 1, none⟩ (.int .i64 (32 * ox + (M1 : Int) + 8))).setCell ⟨vb, 2, none⟩ (.int .i64 (32 * oz + (M2 : Int) + 8))).heap[w.heap.size + 1]? = some (.cells #[.int .i64 0, .int .i64 0, .int .i64 0, .int .i64 0, .int .i64 0] 50 (0, 0))) := by show _ = _; rw [Below.heap_setCell _ ⟨vb, 2, none⟩ _ (w.heap.size + 1) hn1.out, Below.heap_setCell _ ⟨vb, 1, none⟩ _ (w.heap.size + 1) hn1.out]; exact HO6.out
  have HB7 : Hid (Below w.heap.size w ((W6.setCell ⟨vb, 1, none⟩ (.int .i64 (32 * ox + (M1 : Int) + 8))).setCell ⟨vb, 2, none⟩ (.int .i64 (32 * oz + (M2 : Int) + 8)))) := (HB6.out.setCell (p := ⟨vb, 1, none⟩) (by have := Hvb.out; show w.heap.size ≤ vb; omega) _).setCell (p := ⟨vb, 2, none⟩) (by have := Hvb.out; show w.heap.size ≤ vb; omega) _
  generalize (W6.setCell ⟨vb, 1, none⟩ (.int .i64 (32 * ox + (M1 : Int) + 8))).setCell ⟨vb, 2, none⟩ (.int .i64 (32 * oz + (M2 : Int) + 8)) = W7 at *
  clear HV6 HX6 HO6 HB6
  clear c1 c2 f1 f2 W6
  obtain ⟨XX, hXX⟩ : ∃ v : Int, 32 * ox + (M1 : Int) + 8 = v := ⟨_, rfl⟩
  obtain ⟨ZZ, hZZ⟩ : ∃ v : Int, 32 * oz + (M2 : Int) + 8 = v := ⟨_, rfl⟩
  rw [hXX, hZZ] at HV7
  have c1 : W7.cell? ⟨vb, 1, none⟩ = some (.int .i64 XX) := (cell_of_row W7 vb 1 _ 50 (0, 0) HV7.out).trans rfl
  have c2 : W7.cell? ⟨vb, 2, none⟩ = some (.int .i64 ZZ) := (cell_of_row W7 vb 2 _ 50 (0, 0) HV7.out).trans rfl
  have k0 : W7.cell? ⟨w.heap.size, 0, none⟩ = some (.int .i64 cx) := (cell_of_row W7 w.heap.size 0 _ 31 (0, 0) HX7.out).trans rfl
  have k1 : W7.cell? ⟨w.heap.size, 1, none⟩ = some (.int .i64 cz) := (cell_of_row W7 w.heap.size 1 _ 31 (0, 0) HX7.out).trans rfl
  go_wp2_with fail
  clear c1 c2
  have hgr := rground_c cx cz XX ZZ a a' c c' hs bs W7 (by omega) (by omega) hcx hcz (HHs.out.1.on HB7.out) (HBs.out.1.on HB7.out) HHs.out.2 HBs.out.2
  have hge : toldG cx cz hs bs XX ZZ = .returned (.tuple #[.int .i64 (if nearB cx cz XX ZZ then gAt cx cz hs XX ZZ else 0), .int .i64 (if nearB cx cz XX ZZ then gAt cx cz bs XX ZZ else 0), .bool (nearB cx cz XX ZZ)]) := rfl
  rw [hge] at hgr
  clear hge
  rw [show 32 * ox + (M1 : Int) + 8 = XX from hXX] at HcX
  rw [show 32 * oz + (M2 : Int) + 8 = ZZ from hZZ] at HcZ
  rw [HcX.out, HcZ.out, HL.out] at Hth2
  clear HHs HBs HcX HcZ HL
  generalize nearB cx cz XX ZZ = nb at *
  generalize gAt cx cz hs XX ZZ = gh at *
  generalize gAt cx cz bs XX ZZ = gb at *
  obtain ⟨hv, hhv⟩ : ∃ v : Int, (if nb = true then gh else 0) = v := ⟨_, rfl⟩
  obtain ⟨bw, hbw⟩ : ∃ v : Int, (if nb = true then gb else 0) = v := ⟨_, rfl⟩
  rw [hhv, hbw] at hgr
  have Hhv : Hid (nb = true → hv = gh ∧ bw = gb) := fun e => by subst e; exact ⟨hhv.symm, hbw.symm⟩
  have Hnv : Hid (nb = false → hv = 0 ∧ bw = 0) := fun e => by subst e; exact ⟨hhv.symm, hbw.symm⟩
  clear hhv hbw
  refine hgr.mono ?_
  clear hgr k0 k1
  rintro _ W8 ⟨rfl, hb8⟩
  have HB8 : Hid (Below w.heap.size w W8) := HB7.out.trans (hb8.mono HB7.out.size)
  have hV8 : W8.heap[vb]? = some (.cells #[.int .i64 0, .int .i64 XX, .int .i64 ZZ, .int .i64 0, .int .i64 lt] 50 (0, 0)) := (hb8.block _ (Array.getElem?_eq_some_iff.1 HV7.out).1).trans HV7.out
  have HO8 : Hid (W8.heap[w.heap.size + 1]? = some (.cells #[.int .i64 0, .int .i64 0, .int .i64 0, .int .i64 0, .int .i64 0] 50 (0, 0))) := (hb8.block _ (Array.getElem?_eq_some_iff.1 HO7.out).1).trans HO7.out
  clear hb8 HB7 HV7 HO7 HX7
  have c3 : W8.cell? ⟨vb, 3, none⟩ = some (.int .i64 0) := (cell_of_row W8 vb 3 _ 50 (0, 0) hV8).trans rfl
  have f3 : W8.frozen? ⟨vb, 3, none⟩ = false := frozen_of_row W8 vb 3 _ 50 hV8
  go_upto_region 18 with fail
  have HV9 : Hid ((W8.setCell ⟨vb, 3, none⟩ (.int .i64 hv)).heap[vb]? = some (.cells #[.int .i64 0, .int .i64 XX, .int .i64 ZZ, .int .i64 hv, .int .i64 lt] 50 (0, 0))) := by show _ = _; rw [heap_setCell_same W8 vb 3 _ 50 _ hV8]; rfl
  have HO9 : Hid ((W8.setCell ⟨vb, 3, none⟩ (.int .i64 hv)).heap[w.heap.size + 1]? = some (.cells #[.int .i64 0, .int .i64 0, .int .i64 0, .int .i64 0, .int .i64 0] 50 (0, 0))) := (Below.heap_setCell W8 ⟨vb, 3, none⟩ _ (w.heap.size + 1) hn1.out).trans HO8.out
  have HB9 : Hid (Below w.heap.size w (W8.setCell ⟨vb, 3, none⟩ (.int .i64 hv))) := HB8.out.setCell (p := ⟨vb, 3, none⟩) (by have := Hvb.out; show w.heap.size ≤ vb; omega) _
  generalize W8.setCell ⟨vb, 3, none⟩ (.int .i64 hv) = W9 at *
  clear c3 f3 hV8 HO8 HB8 W8
  have c0 : W9.cell? ⟨vb, 0, none⟩ = some (.int .i64 0) := (cell_of_row W9 vb 0 _ 50 (0, 0) HV9.out).trans rfl
  have c1 : W9.cell? ⟨vb, 1, none⟩ = some (.int .i64 XX) := (cell_of_row W9 vb 1 _ 50 (0, 0) HV9.out).trans rfl
  have c2 : W9.cell? ⟨vb, 2, none⟩ = some (.int .i64 ZZ) := (cell_of_row W9 vb 2 _ 50 (0, 0) HV9.out).trans rfl
  have c3 : W9.cell? ⟨vb, 3, none⟩ = some (.int .i64 hv) := (cell_of_row W9 vb 3 _ 50 (0, 0) HV9.out).trans rfl
  have c4 : W9.cell? ⟨vb, 4, none⟩ = some (.int .i64 lt) := (cell_of_row W9 vb 4 _ 50 (0, 0) HV9.out).trans rfl
  have o0 : W9.cell? ⟨w.heap.size + 1, 0, none⟩ = some (.int .i64 0) := (cell_of_row W9 (w.heap.size + 1) 0 _ 50 (0, 0) HO9.out).trans rfl
  have f0 : W9.frozen? ⟨w.heap.size + 1, 0, none⟩ = false := frozen_of_row W9 (w.heap.size + 1) 0 _ 50 HO9.out
  have o1 : W9.cell? ⟨w.heap.size + 1, 1, none⟩ = some (.int .i64 0) := (cell_of_row W9 (w.heap.size + 1) 1 _ 50 (0, 0) HO9.out).trans rfl
  have f1 : W9.frozen? ⟨w.heap.size + 1, 1, none⟩ = false := frozen_of_row W9 (w.heap.size + 1) 1 _ 50 HO9.out
  have o2 : W9.cell? ⟨w.heap.size + 1, 2, none⟩ = some (.int .i64 0) := (cell_of_row W9 (w.heap.size + 1) 2 _ 50 (0, 0) HO9.out).trans rfl
  have f2 : W9.frozen? ⟨w.heap.size + 1, 2, none⟩ = false := frozen_of_row W9 (w.heap.size + 1) 2 _ 50 HO9.out
  have o3 : W9.cell? ⟨w.heap.size + 1, 3, none⟩ = some (.int .i64 0) := (cell_of_row W9 (w.heap.size + 1) 3 _ 50 (0, 0) HO9.out).trans rfl
  have f3 : W9.frozen? ⟨w.heap.size + 1, 3, none⟩ = false := frozen_of_row W9 (w.heap.size + 1) 3 _ 50 HO9.out
  have o4 : W9.cell? ⟨w.heap.size + 1, 4, none⟩ = some (.int .i64 0) := (cell_of_row W9 (w.heap.size + 1) 4 _ 50 (0, 0) HO9.out).trans rfl
  have f4 : W9.frozen? ⟨w.heap.size + 1, 4, none⟩ = false := frozen_of_row W9 (w.heap.size + 1) 4 _ 50 HO9.out
  have Hyes : Hid ((nb && standB 0 h gh gb) = nb → Post (.returned (.tuple #[.agg #[.int .i64 0, .int .i64 XX, .int .i64 ZZ, .int .i64 hv, .int .i64 lt], .bool nb])) (set5 W9 (w.heap.size + 1) (.int .i64 0) (.int .i64 XX) (.int .i64 ZZ) (.int .i64 hv) (.int .i64 lt))) := fun e => HP.out _ _ ⟨set5_below HB9.out _ _ _ _ _, 0, XX, ZZ, hv, lt, by
      rw [Hth2.out, e]
      rcases nb with _ | _ <;> rfl, fun t ht => by
      rw [Hth2.out, e] at ht
      rcases nb with _ | _
      · cases ht
      · injection ht with ht
        rw [← ht]
        exact ⟨rfl, rfl, rfl, (Hhv.out rfl).1, rfl⟩⟩
  have Hno : Hid ((nb && standB 0 h gh gb) = false → Post (.returned (.tuple #[.agg #[.int .i64 0, .int .i64 0, .int .i64 0, .int .i64 0, .int .i64 0], .bool false])) (set5 W9 (w.heap.size + 1) (.int .i64 0) (.int .i64 0) (.int .i64 0) (.int .i64 0) (.int .i64 0))) := fun e => HP.out _ _ ⟨set5_below HB9.out _ _ _ _ _, 0, 0, 0, 0, 0, by rw [Hth2.out, e]; rfl, fun t ht => by rw [Hth2.out, e] at ht; cases ht⟩
  have HS5 : Hid (∀ v0 v1 v2 v3 v4 : Value, (set5 W9 (w.heap.size + 1) v0 v1 v2 v3 v4).heap[w.heap.size + 1]? = some (.cells #[v0, v1, v2, v3, v4] 50 (0, 0))) := fun v0 v1 v2 v3 v4 => set5_row HO9.out v0 v1 v2 v3 v4
  have Hst : Hid (∀ g1 g2 : Int, standB 0 h g1 g2 = true) := fun _ _ => rfl
  clear HP Hth2 HO9 HB9 HV9
  have R := Hyes.out (by rw [Hst.out, Bool.and_true])
  clear Hyes Hno Hst Hhv Hnv
  go_wp2
  exact bodyPost_ret (results_row_tmp (p := 14) (u := 15) (ty := 50) rfl _ _ (w.heap.size + 1) 50 _ (0, 0) _ rfl (HS5.out _ _ _ _ _) Try.underlying50 rfl (by kernel_rfl)) rfl R
set_option maxRecDepth 100000 in
set_option maxHeartbeats 4000000 in
theorem rthing1_c (S : Nat) (cx cz ox oz : Int) (a a' : Option Addr) (c c' : Nat) (hs bs : List (List Int)) (w : World) (hS : S < 18446744073709551616) (hx : -10000000000000 ≤ ox ∧ ox ≤ 10000000000000) (hz : -10000000000000 ≤ oz ∧ oz ≤ 10000000000000) (hcx : -1000000000000000 ≤ cx ∧ cx ≤ 1000000000000000) (hcz : -1000000000000000 ≤ cz ∧ cz ≤ 1000000000000000)
    (hH : Rows2 w a hs) (hB : Rows2 w a' bs) (oH : okG 128 hs) (oB : okG 4 bs) :
    Calls Try.prog 32 #[.int .u64 S, .agg #[.int .i64 cx, .int .i64 cz], .slice a 9 c, .slice a' 9 c', .int .i64 1, .int .i64 ox, .int .i64 oz] w (RtSay (thingN S 1 cx cz hs bs ox oz) w) := by
  have hTe : thingN S 1 cx cz hs bs ox oz = thingH 1 (R.hashN S 42 ox 0 oz) cx cz hs bs ox oz := rfl
  rw [hTe]
  clear hTe
  have hlt := R.hashN_lt S 42 ox 0 oz
  have hh := fun w => R.rhash_any S 42 ox 0 oz w hS
  generalize R.hashN S 42 ox 0 oz = h at *
  have hb := fun w => R.rbelow_any h 100 w hlt (by omega)
  obtain ⟨Post, hPost⟩ : ∃ Post : Ending → World → Prop, Post = RtSay (thingH 1 h cx cz hs bs ox oz) w := ⟨_, rfl⟩
  rw [← hPost]
  have HP : Hid (∀ e w', RtSay (thingH 1 h cx cz hs bs ox oz) w e w' → Post e w') := fun e w' h => by rw [hPost]; exact h
  clear hPost
  have Hbv : Hid (∀ b : Int, R.belowN h 100 = b → ∀ t, thingH 1 h cx cz hs bs ox oz = some t → b < 20) := fun b e t ht => by rw [← e]; exact (thing_is ht).2.1
  have Hth : Hid (thingH 1 h cx cz hs bs ox oz = if (decide (R.belowN h 100 < 20) && nearB cx cz (colX 1 h ox) (colZ 1 h oz) && standB 1 h (gAt cx cz hs (colX 1 h ox) (colZ 1 h oz)) (gAt cx cz bs (colX 1 h ox) (colZ 1 h oz))) = true then some ⟨1, colX 1 h ox, colZ 1 h oz, gAt cx cz hs (colX 1 h ox) (colZ 1 h oz), lenT h⟩ else none) := rfl
  have HHs : Hid (Rows2 w a hs ∧ okG 128 hs) := ⟨hH, oH⟩
  have HBs : Hid (Rows2 w a' bs ∧ okG 4 bs) := ⟨hB, oB⟩
  obtain ⟨bv, hbv⟩ : ∃ b : Int, R.belowN h 100 = b := ⟨_, rfl⟩
  rw [hbv] at hb Hth
  have Hb : Hid (∀ w, Calls Try.prog 52 #[.int .u64 (h : Int), .int .i64 100] w fun e w' => e = .returned (.int .i64 bv) ∧ Below w.heap.size w w') := fun w => (hb w).mono fun _ _ ⟨h1, e⟩ => ⟨h1, by rw [e]; exact Below.refl _ _⟩
  clear hb hbv Hbv hH hB oH oB
  obtain ⟨x0, x1⟩ := hx
  obtain ⟨z0, z1⟩ := hz
  go_enter Try.func32, Try.ntmps32
  go_wp2_with fail
  refine (hh _).mono ?_
  clear hh
  rintro _ w1 ⟨rfl, hb1⟩
  obtain ⟨hX1, hO1, _, hS1, hM1, hbw⟩ := new5 w _ _ _ _ _ hb1
  have HX1 : Hid (w1.heap[w.heap.size]? = some (.cells #[.int .i64 cx, .int .i64 cz] 31 (0, 0))) := hX1
  have HO1 : Hid (w1.heap[w.heap.size + 1]? = some (.cells #[.int .i64 0, .int .i64 0, .int .i64 0, .int .i64 0, .int .i64 0] 50 (0, 0))) := hO1
  have HS1 : Hid (w1.heap[w.heap.size + 1 + 1 + 1]? = some (.cells #[.int .i64 32, .int .i64 16, .int .i64 8] 81 (0, 0))) := hS1
  have HB1 : Hid (Below w.heap.size w w1) := hbw
  have hsome := since_some w1
  have k0 := fun s : Since w1 => Since.cell ((cell_of_row w1 (w.heap.size + 1 + 1 + 1 + 1) 1 _ 81 (0, 0) hM1).trans rfl) s
  clear hb1 hX1 hO1 hS1 hbw
  go_wp2_with fail
  refine wp_region_since (by kernel_rfl) (by kernel_rfl) ?_
  repeat (go_big_quiet_step (first | (go_at_call 52; exact Calls.since (Hb.out _))))
  refine wpQuiet_nil ?_
  rintro _ ⟨s, rfl⟩
  have HB2 : Hid (Below w.heap.size w s.w) := HB1.out.trans (s.bel.mono HB1.out.size)
  have HX2 : Hid (s.w.heap[w.heap.size]? = some (.cells #[.int .i64 cx, .int .i64 cz] 31 (0, 0))) := (s.bel.block _ (Array.getElem?_eq_some_iff.1 HX1.out).1).trans HX1.out
  have HO2 : Hid (s.w.heap[w.heap.size + 1]? = some (.cells #[.int .i64 0, .int .i64 0, .int .i64 0, .int .i64 0, .int .i64 0] 50 (0, 0))) := (s.bel.block _ (Array.getElem?_eq_some_iff.1 HO1.out).1).trans HO1.out
  have HS2 : Hid (s.w.heap[w.heap.size + 1 + 1 + 1]? = some (.cells #[.int .i64 32, .int .i64 16, .int .i64 8] 81 (0, 0))) := (s.bel.block _ (Array.getElem?_eq_some_iff.1 HS1.out).1).trans HS1.out
  generalize s.w = W2 at *
  clear hsome k0 HB1 HX1 HO1 HS1 hM1
  by_cases hbv : bv < 20
  case neg =>
    have hbv' : 20 ≤ bv := by omega
    have c0 : W2.cell? ⟨w.heap.size + 1, 0, none⟩ = some (.int .i64 0) := (cell_of_row W2 (w.heap.size + 1) 0 _ 50 (0, 0) HO2.out).trans rfl
    have f0 : W2.frozen? ⟨w.heap.size + 1, 0, none⟩ = false := frozen_of_row W2 (w.heap.size + 1) 0 _ 50 HO2.out
    have c1 : W2.cell? ⟨w.heap.size + 1, 1, none⟩ = some (.int .i64 0) := (cell_of_row W2 (w.heap.size + 1) 1 _ 50 (0, 0) HO2.out).trans rfl
    have f1 : W2.frozen? ⟨w.heap.size + 1, 1, none⟩ = false := frozen_of_row W2 (w.heap.size + 1) 1 _ 50 HO2.out
    have c2 : W2.cell? ⟨w.heap.size + 1, 2, none⟩ = some (.int .i64 0) := (cell_of_row W2 (w.heap.size + 1) 2 _ 50 (0, 0) HO2.out).trans rfl
    have f2 : W2.frozen? ⟨w.heap.size + 1, 2, none⟩ = false := frozen_of_row W2 (w.heap.size + 1) 2 _ 50 HO2.out
    have c3 : W2.cell? ⟨w.heap.size + 1, 3, none⟩ = some (.int .i64 0) := (cell_of_row W2 (w.heap.size + 1) 3 _ 50 (0, 0) HO2.out).trans rfl
    have f3 : W2.frozen? ⟨w.heap.size + 1, 3, none⟩ = false := frozen_of_row W2 (w.heap.size + 1) 3 _ 50 HO2.out
    have c4 : W2.cell? ⟨w.heap.size + 1, 4, none⟩ = some (.int .i64 0) := (cell_of_row W2 (w.heap.size + 1) 4 _ 50 (0, 0) HO2.out).trans rfl
    have f4 : W2.frozen? ⟨w.heap.size + 1, 4, none⟩ = false := frozen_of_row W2 (w.heap.size + 1) 4 _ 50 HO2.out
    have R := HP.out _ _ (show RtSay (thingH 1 h cx cz hs bs ox oz) w (.returned (.tuple #[.agg #[.int .i64 0, .int .i64 0, .int .i64 0, .int .i64 0, .int .i64 0], .bool false])) (set5 W2 (w.heap.size + 1) (.int .i64 0) (.int .i64 0) (.int .i64 0) (.int .i64 0) (.int .i64 0)) from by
      have hn : thingH 1 h cx cz hs bs ox oz = none := by rw [Hth.out, decide_eq_false hbv]; rfl
      rw [hn]
      exact ⟨set5_below HB2.out _ _ _ _ _, 0, 0, 0, 0, 0, rfl, fun t ht => by cases ht⟩)
    have HS5 : Hid ((set5 W2 (w.heap.size + 1) (.int .i64 0) (.int .i64 0) (.int .i64 0) (.int .i64 0) (.int .i64 0)).heap[w.heap.size + 1]? = some (.cells #[.int .i64 0, .int .i64 0, .int .i64 0, .int .i64 0, .int .i64 0] 50 (0, 0))) := set5_row HO2.out _ _ _ _ _
    clear HP Hth HHs HBs HB2 HX2 HO2 HS2 Hb
    go_wp2
    exact bodyPost_ret (results_row_tmp (p := 14) (u := 15) (ty := 50) rfl _ _ (w.heap.size + 1) 50 _ (0, 0) _ rfl HS5.out Try.underlying50 rfl (by kernel_rfl)) rfl R
  have hbv' : ¬ 20 ≤ bv := by omega
  have Hth2 : Hid (thingH 1 h cx cz hs bs ox oz = if (nearB cx cz (colX 1 h ox) (colZ 1 h oz) && standB 1 h (gAt cx cz hs (colX 1 h ox) (colZ 1 h oz)) (gAt cx cz bs (colX 1 h ox) (colZ 1 h oz))) = true then some ⟨1, colX 1 h ox, colZ 1 h oz, gAt cx cz hs (colX 1 h ox) (colZ 1 h oz), lenT h⟩ else none) := by show _ = _; rw [Hth.out, decide_eq_true hbv, Bool.true_and]
  clear Hth Hb hbv
  have e4 : bits .and .i64 ((h : Int) / 65536) 3 = ((h / 65536 % 4 : Nat) : Int) := by rw [and3]; omega
  have HL : Hid (lenT h = 4 + ((h / 65536 % 4 : Nat) : Int)) := rfl
  have b4 : h / 65536 % 4 < 4 := Nat.mod_lt _ (by omega)
  generalize h / 65536 % 4 = M4 at *
  obtain ⟨lt, hlt4⟩ : ∃ l : Int, (4 : Int) + (M4 : Int) = l := ⟨_, rfl⟩
  have wl : IntKind.i64.wrap (4 + (M4 : Int)) = lt := by rw [IntKind.wrap_i64]; omega
  rw [hlt4] at HL
  have wx : IntKind.i64.wrap (16 * ox) = 16 * ox := by rw [IntKind.wrap_i64]; omega
  have wz : IntKind.i64.wrap (16 * oz) = 16 * oz := by rw [IntKind.wrap_i64]; omega
  have hcw2 : IntKind.i64.wrap ((h : Int) / 65536) = (h : Int) / 65536 := wrap_in _ (shr_in h 65536 (by omega) hlt).1 (shr_in h 65536 (by omega) hlt).2
  clear hlt4
  go_wp2_with fail
  refine region_L (fun w' => Below W2.heap.size W2 w') 19 (by kernel_rfl) ?_
  have hHeld : Below W2.heap.size W2 W2.drew := (Below.refl _ _).drew
  have HB3 : Hid (Below w.heap.size w W2.drew) := HB2.out.drew
  have HX3 : Hid (W2.drew.heap[w.heap.size]? = some (.cells #[.int .i64 cx, .int .i64 cz] 31 (0, 0))) := HX2.out
  have HO3 : Hid (W2.drew.heap[w.heap.size + 1]? = some (.cells #[.int .i64 0, .int .i64 0, .int .i64 0, .int .i64 0, .int .i64 0] 50 (0, 0))) := HO2.out
  have k0 : ∀ s : Sub (fun w' => Below W2.heap.size W2 w'), s.w.cell? ⟨w.heap.size + 1 + 1 + 1, 1, none⟩ = some (.int .i64 16) := fun s => cell_below ((cell_of_row W2 (w.heap.size + 1 + 1 + 1) 1 _ 81 (0, 0) HS2.out).trans rfl) s.ok
  have hne : Nonempty (Sub (fun w' => Below W2.heap.size W2 w')) := ⟨⟨_, hHeld⟩⟩
  clear HB2 HX2 HO2
  generalize W2.drew = W3 at *
  refine take_L (i := 0) rfl (by kernel_rfl) (by kernel_rfl) (by kernel_rfl) (by kernel_rfl) (fun _ _ _ _ h => h) (by exact hHeld) (fun K hK => ?_)
  go_simp
  refine hK _ ?_
  clear hK K
  refine take_L (i := 1) rfl (by kernel_rfl) (by kernel_rfl) (by kernel_rfl) (by kernel_rfl) (fun _ _ _ _ h => h) (by exact hHeld) (fun K hK => ?_)
  go_simp
  refine hK _ ?_
  clear hK K
  refine take_L (i := 2) rfl (by kernel_rfl) (by kernel_rfl) (by kernel_rfl) (by kernel_rfl) (fun _ _ _ _ h => h) (by exact hHeld) (fun K hK => ?_)
  go_simp
  refine hK _ ?_
  clear hK K
  refine take_L (i := 3) rfl (by kernel_rfl) (by kernel_rfl) (by kernel_rfl) (by kernel_rfl) (fun _ _ _ _ h => h) (by exact hHeld) (fun K hK => ?_)
  go_simp
  refine hK _ ?_
  clear hK K
  refine take_L (i := 4) rfl (by kernel_rfl) (by kernel_rfl) (by kernel_rfl) (by kernel_rfl) (fun _ _ _ _ h => h) (by exact hHeld) (fun K hK => ?_)
  go_simp
  refine hK _ ?_
  clear hK K
  refine take_L (i := 5) rfl (by kernel_rfl) (by kernel_rfl) (by kernel_rfl) (by kernel_rfl) (fun _ _ _ _ h => h) (by exact hHeld) (fun K hK => ?_)
  go_simp
  refine hK _ ?_
  clear hK K
  refine take_L (i := 6) rfl (by kernel_rfl) (by kernel_rfl) (by kernel_rfl) (by kernel_rfl) (fun _ _ _ _ h => h) (by exact hHeld) (fun K hK => ?_)
  go_simp
  refine hK _ ?_
  clear hK K
  refine take_L (i := 7) rfl (by kernel_rfl) (by kernel_rfl) (by kernel_rfl) (by kernel_rfl) (fun _ _ _ _ h => h) (by exact hHeld) (fun K hK => ?_)
  go_simp
  refine hK _ ?_
  clear hK K
  refine take_L (i := 8) rfl (by kernel_rfl) (by kernel_rfl) (by kernel_rfl) (by kernel_rfl) (fun _ _ _ _ h => h) (by exact hHeld) (fun K hK => ?_)
  go_simp
  refine hK _ ?_
  clear hK K
  refine take_L (i := 9) rfl (by kernel_rfl) (by kernel_rfl) (by kernel_rfl) (by kernel_rfl) (fun _ _ _ _ h => h) (by exact hHeld) (fun K hK => ?_)
  go_simp
  refine hK _ ?_
  clear hK K
  refine take_L (i := 10) rfl (by kernel_rfl) (by kernel_rfl) (by kernel_rfl) (by kernel_rfl) (fun _ _ _ _ h => h) (by exact hHeld) (fun K hK => ?_)
  go_simp
  refine hK _ ?_
  clear hK K
  refine take_L (i := 11) rfl (by kernel_rfl) (by kernel_rfl) (by kernel_rfl) (by kernel_rfl) (fun _ _ _ _ h => h) (by exact hHeld) (fun K hK => ?_)
  go_simp
  refine hK _ ?_
  clear hK K
  refine take_L (i := 12) rfl (by kernel_rfl) (by kernel_rfl) (by kernel_rfl) (by kernel_rfl) (fun _ _ _ _ h => h) (by exact hHeld) (fun K hK => ?_)
  go_simp
  refine hK _ ?_
  clear hK K
  refine take_L (i := 13) rfl (by kernel_rfl) (by kernel_rfl) (by kernel_rfl) (by kernel_rfl) (fun _ _ _ _ h => h) (by exact hHeld) (fun K hK => ?_)
  go_simp
  refine hK _ ?_
  clear hK K
  refine take_L (i := 14) rfl (by kernel_rfl) (by kernel_rfl) (by kernel_rfl) (by kernel_rfl) (fun _ _ _ _ h => h) (by exact hHeld) (fun K hK => ?_)
  go_simp
  refine hK _ ?_
  clear hK K
  refine take_L (i := 15) rfl (by kernel_rfl) (by kernel_rfl) (by kernel_rfl) (by kernel_rfl) (fun _ _ _ _ h => h) (by exact hHeld) (fun K hK => ?_)
  go_simp
  refine hK _ ?_
  clear hK K
  refine take_L (i := 16) rfl (by kernel_rfl) (by kernel_rfl) (by kernel_rfl) (by kernel_rfl) (fun _ _ _ _ h => h) (by exact hHeld) (fun K hK => ?_)
  go_simp
  refine hK _ ?_
  clear hK K
  refine one_L (i := 17) (by kernel_rfl) rfl (fun K hK => ?_)
  go_simp
  have Hv2 : Hid (W2.heap.size ≤ W3.heap.size) := hHeld.size
  replace hHeld : Below W2.heap.size W2 (W3.alloc (.cells #[.int .i64 0, .int .i64 0, .int .i64 0, .int .i64 0, .int .i64 0] 50)) := hHeld.alloc hHeld.size _
  refine hK.out _ _ (fun _ => hHeld) ?_
  clear hK K k0 hne wx wz wl hcw2 e4
  have HB4 : Hid (Below w.heap.size w (W3.alloc (.cells #[.int .i64 0, .int .i64 0, .int .i64 0, .int .i64 0, .int .i64 0] 50))) := HB3.out.alloc HB3.out.size _
  have HX4 : Hid ((W3.alloc (.cells #[.int .i64 0, .int .i64 0, .int .i64 0, .int .i64 0, .int .i64 0] 50)).heap[w.heap.size]? = some (.cells #[.int .i64 cx, .int .i64 cz] 31 (0, 0))) := (heap_alloc_old W3 _ (Array.getElem?_eq_some_iff.1 HX3.out).1).trans HX3.out
  have HO4 : Hid ((W3.alloc (.cells #[.int .i64 0, .int .i64 0, .int .i64 0, .int .i64 0, .int .i64 0] 50)).heap[w.heap.size + 1]? = some (.cells #[.int .i64 0, .int .i64 0, .int .i64 0, .int .i64 0, .int .i64 0] 50 (0, 0))) := (heap_alloc_old W3 _ (Array.getElem?_eq_some_iff.1 HO3.out).1).trans HO3.out
  have HV4 : Hid ((W3.alloc (.cells #[.int .i64 0, .int .i64 0, .int .i64 0, .int .i64 0, .int .i64 0] 50)).heap[W3.heap.size]? = some (.cells #[.int .i64 0, .int .i64 0, .int .i64 0, .int .i64 0, .int .i64 0] 50 (0, 0))) := heap_alloc_new W3 _
  have Hvb : Hid (w.heap.size + 1 < W3.heap.size) := (Array.getElem?_eq_some_iff.1 HO3.out).1
  generalize W3.alloc _ = W4 at *
  generalize W3.heap.size = vb at *
  clear HB3 HX3 HO3 W3
  have c0 : W4.cell? ⟨vb, 0, none⟩ = some (.int .i64 0) := (cell_of_row W4 vb 0 _ 50 (0, 0) HV4.out).trans rfl
  have f0 : W4.frozen? ⟨vb, 0, none⟩ = false := frozen_of_row W4 vb 0 _ 50 HV4.out
  have c1 : W4.cell? ⟨vb, 1, none⟩ = some (.int .i64 0) := (cell_of_row W4 vb 1 _ 50 (0, 0) HV4.out).trans rfl
  have f1 : W4.frozen? ⟨vb, 1, none⟩ = false := frozen_of_row W4 vb 1 _ 50 HV4.out
  have c2 : W4.cell? ⟨vb, 2, none⟩ = some (.int .i64 0) := (cell_of_row W4 vb 2 _ 50 (0, 0) HV4.out).trans rfl
  have f2 : W4.frozen? ⟨vb, 2, none⟩ = false := frozen_of_row W4 vb 2 _ 50 HV4.out
  have c3 : W4.cell? ⟨vb, 3, none⟩ = some (.int .i64 0) := (cell_of_row W4 vb 3 _ 50 (0, 0) HV4.out).trans rfl
  have f3 : W4.frozen? ⟨vb, 3, none⟩ = false := frozen_of_row W4 vb 3 _ 50 HV4.out
  have c4 : W4.cell? ⟨vb, 4, none⟩ = some (.int .i64 0) := (cell_of_row W4 vb 4 _ 50 (0, 0) HV4.out).trans rfl
  have f4 : W4.frozen? ⟨vb, 4, none⟩ = false := frozen_of_row W4 vb 4 _ 50 HV4.out
  refine one_L (i := 18) (by kernel_rfl) rfl (fun K hK => ?_)
  go_simp
  refine hK.out _ _ (fun _ => set5_below hHeld _ _ _ _ _ Hv2.out) ?_
  clear hK K
  refine done_L (by kernel_rfl) ?_ _
  have HV5 : Hid ((set5 W4 vb (.int .i64 1) (.int .i64 (16 * ox)) (.int .i64 (16 * oz)) (.int .i64 0) (.int .i64 lt)).heap[vb]? = some (.cells #[.int .i64 1, .int .i64 (16 * ox), .int .i64 (16 * oz), .int .i64 0, .int .i64 lt] 50 (0, 0))) := set5_row HV4.out _ _ _ _ _
  have HX5 : Hid ((set5 W4 vb (.int .i64 1) (.int .i64 (16 * ox)) (.int .i64 (16 * oz)) (.int .i64 0) (.int .i64 lt)).heap[w.heap.size]? = some (.cells #[.int .i64 cx, .int .i64 cz] 31 (0, 0))) := (set5_other (by have := Hvb.out; omega) _ _ _ _ _).trans HX4.out
  have HO5 : Hid ((set5 W4 vb (.int .i64 1) (.int .i64 (16 * ox)) (.int .i64 (16 * oz)) (.int .i64 0) (.int .i64 lt)).heap[w.heap.size + 1]? = some (.cells #[.int .i64 0, .int .i64 0, .int .i64 0, .int .i64 0, .int .i64 0] 50 (0, 0))) := (set5_other (by have := Hvb.out; omega) _ _ _ _ _).trans HO4.out
  have HB5 : Hid (Below w.heap.size w (set5 W4 vb (.int .i64 1) (.int .i64 (16 * ox)) (.int .i64 (16 * oz)) (.int .i64 0) (.int .i64 lt))) := set5_below HB4.out _ _ _ _ _ (by have := Hvb.out; omega)
  unfold set5 at HV5 HX5 HO5 HB5
  generalize ((((W4.setCell ⟨vb, 0, none⟩ (.int .i64 1)).setCell ⟨vb, 1, none⟩ (.int .i64 (16 * ox))).setCell ⟨vb, 2, none⟩ (.int .i64 (16 * oz))).setCell ⟨vb, 3, none⟩ (.int .i64 0)).setCell ⟨vb, 4, none⟩ (.int .i64 lt) = W5 at *
  clear c0 c1 c2 c3 c4 f0 f1 f2 f3 f4 HV4 HX4 HO4 HB4 hHeld Hv2 HS2 W4
  have c0 : W5.cell? ⟨vb, 0, none⟩ = some (.int .i64 1) := (cell_of_row W5 vb 0 _ 50 (0, 0) HV5.out).trans rfl
  have f0 : W5.frozen? ⟨vb, 0, none⟩ = false := frozen_of_row W5 vb 0 _ 50 HV5.out
  have c1 : W5.cell? ⟨vb, 1, none⟩ = some (.int .i64 (16 * ox)) := (cell_of_row W5 vb 1 _ 50 (0, 0) HV5.out).trans rfl
  have f1 : W5.frozen? ⟨vb, 1, none⟩ = false := frozen_of_row W5 vb 1 _ 50 HV5.out
  have c2 : W5.cell? ⟨vb, 2, none⟩ = some (.int .i64 (16 * oz)) := (cell_of_row W5 vb 2 _ 50 (0, 0) HV5.out).trans rfl
  have f2 : W5.frozen? ⟨vb, 2, none⟩ = false := frozen_of_row W5 vb 2 _ 50 HV5.out
  have c3 : W5.cell? ⟨vb, 3, none⟩ = some (.int .i64 0) := (cell_of_row W5 vb 3 _ 50 (0, 0) HV5.out).trans rfl
  have f3 : W5.frozen? ⟨vb, 3, none⟩ = false := frozen_of_row W5 vb 3 _ 50 HV5.out
  have c4 : W5.cell? ⟨vb, 4, none⟩ = some (.int .i64 lt) := (cell_of_row W5 vb 4 _ 50 (0, 0) HV5.out).trans rfl
  have f4 : W5.frozen? ⟨vb, 4, none⟩ = false := frozen_of_row W5 vb 4 _ 50 HV5.out
  have e1 : bits .and .i64 ((h : Int) / 256) 15 = ((h / 256 % 16 : Nat) : Int) := by rw [and15]; omega
  have e2 : bits .and .i64 ((h : Int) / 4096) 15 = ((h / 4096 % 16 : Nat) : Int) := by rw [and15]; omega
  have HcX : Hid (colX 1 h ox = 16 * ox + ((h / 256 % 16 : Nat) : Int)) := rfl
  have HcZ : Hid (colZ 1 h oz = 16 * oz + ((h / 4096 % 16 : Nat) : Int)) := rfl
  have b1 : h / 256 % 16 < 16 := Nat.mod_lt _ (by omega)
  have b2 : h / 4096 % 16 < 16 := Nat.mod_lt _ (by omega)
  generalize h / 256 % 16 = M1 at *
  generalize h / 4096 % 16 = M2 at *
  have k0 : W5.cell? ⟨w.heap.size, 0, none⟩ = some (.int .i64 cx) := (cell_of_row W5 w.heap.size 0 _ 31 (0, 0) HX5.out).trans rfl
  have k1 : W5.cell? ⟨w.heap.size, 1, none⟩ = some (.int .i64 cz) := (cell_of_row W5 w.heap.size 1 _ 31 (0, 0) HX5.out).trans rfl
  have hnv : ¬ w.heap.size = vb := by have := Hvb.out; omega
  have hn0 : Hid (w.heap.size ≠ vb) := hnv
  have hn1 : Hid (w.heap.size + 1 ≠ vb) := by show _ ≠ _; have := Hvb.out; omega
  go_upto_region 16 with fail
  have HV7 : Hid (((W5.setCell ⟨vb, 1, none⟩ (.int .i64 (16 * ox + (M1 : Int)))).setCell ⟨vb, 2, none⟩ (.int .i64 (16 * oz + (M2 : Int)))).heap[vb]? = some (.cells #[.int .i64 1, .int .i64 (16 * ox + (M1 : Int)), .int .i64 (16 * oz + (M2 : Int)), .int .i64 0, .int .i64 lt] 50 (0, 0))) := by show _ = _; rw [heap_setCell_same _ vb 2 _ 50 _ (heap_setCell_same W5 vb 1 _ 50 _ HV5.out)]; rfl
  have HX7 : Hid (((W5.setCell ⟨vb, 1, none⟩ (.int .i64 (16 * ox + (M1 : Int)))).setCell ⟨vb, 2, none⟩ (.int .i64 (16 * oz + (M2 : Int)))).heap[w.heap.size]? = some (.cells #[.int .i64 cx, .int .i64 cz] 31 (0, 0))) := by show _ = _; rw [Below.heap_setCell _ ⟨vb, 2, none⟩ _ w.heap.size hn0.out, Below.heap_setCell _ ⟨vb, 1, none⟩ _ w.heap.size hn0.out]; exact HX5.out
  have HO7 : Hid (((W5.setCell ⟨vb, 1, none⟩ (.int .i64 (16 * ox + (M1 : Int)))).setCell ⟨vb, 2, none⟩ (.int .i64 (16 * oz + (M2 : Int)))).heap[w.heap.size + 1]? = some (.cells #[.int .i64 0, .int .i64 0, .int .i64 0, .int .i64 0, .int .i64 0] 50 (0, 0))) := by show _ = _; rw [Below.heap_setCell _ ⟨vb, 2, none⟩ _ (w.heap.size + 1) hn1.out, Below.heap_setCell _ ⟨vb, 1, none⟩ _ (w.heap.size + 1) hn1.out]; exact HO5.out
  have HB7 : Hid (Below w.heap.size w ((W5.setCell ⟨vb, 1, none⟩ (.int .i64 (16 * ox + (M1 : Int)))).setCell ⟨vb, 2, none⟩ (.int .i64 (16 * oz + (M2 : Int))))) := (HB5.out.setCell (p := ⟨vb, 1, none⟩) (by have := Hvb.out; show w.heap.size ≤ vb; omega) _).setCell (p := ⟨vb, 2, none⟩) (by have := Hvb.out; show w.heap.size ≤ vb; omega) _
  generalize (W5.setCell ⟨vb, 1, none⟩ (.int .i64 (16 * ox + (M1 : Int)))).setCell ⟨vb, 2, none⟩ (.int .i64 (16 * oz + (M2 : Int))) = W7 at *
  clear HV5 HX5 HO5 HB5
  clear c0 c1 c2 c3 c4 f0 f1 f2 f3 f4 k0 k1 W5
  obtain ⟨XX, hXX⟩ : ∃ v : Int, 16 * ox + (M1 : Int) = v := ⟨_, rfl⟩
  obtain ⟨ZZ, hZZ⟩ : ∃ v : Int, 16 * oz + (M2 : Int) = v := ⟨_, rfl⟩
  rw [hXX, hZZ] at HV7
  have c1 : W7.cell? ⟨vb, 1, none⟩ = some (.int .i64 XX) := (cell_of_row W7 vb 1 _ 50 (0, 0) HV7.out).trans rfl
  have c2 : W7.cell? ⟨vb, 2, none⟩ = some (.int .i64 ZZ) := (cell_of_row W7 vb 2 _ 50 (0, 0) HV7.out).trans rfl
  have k0 : W7.cell? ⟨w.heap.size, 0, none⟩ = some (.int .i64 cx) := (cell_of_row W7 w.heap.size 0 _ 31 (0, 0) HX7.out).trans rfl
  have k1 : W7.cell? ⟨w.heap.size, 1, none⟩ = some (.int .i64 cz) := (cell_of_row W7 w.heap.size 1 _ 31 (0, 0) HX7.out).trans rfl
  go_wp2_with fail
  clear c1 c2
  have hgr := rground_c cx cz XX ZZ a a' c c' hs bs W7 (by omega) (by omega) hcx hcz (HHs.out.1.on HB7.out) (HBs.out.1.on HB7.out) HHs.out.2 HBs.out.2
  have hge : toldG cx cz hs bs XX ZZ = .returned (.tuple #[.int .i64 (if nearB cx cz XX ZZ then gAt cx cz hs XX ZZ else 0), .int .i64 (if nearB cx cz XX ZZ then gAt cx cz bs XX ZZ else 0), .bool (nearB cx cz XX ZZ)]) := rfl
  rw [hge] at hgr
  clear hge
  rw [show 16 * ox + (M1 : Int) = XX from hXX] at HcX
  rw [show 16 * oz + (M2 : Int) = ZZ from hZZ] at HcZ
  rw [HcX.out, HcZ.out, HL.out] at Hth2
  clear HHs HBs HcX HcZ HL
  generalize nearB cx cz XX ZZ = nb at *
  generalize gAt cx cz hs XX ZZ = gh at *
  generalize gAt cx cz bs XX ZZ = gb at *
  obtain ⟨hv, hhv⟩ : ∃ v : Int, (if nb = true then gh else 0) = v := ⟨_, rfl⟩
  obtain ⟨bw, hbw⟩ : ∃ v : Int, (if nb = true then gb else 0) = v := ⟨_, rfl⟩
  rw [hhv, hbw] at hgr
  have Hhv : Hid (nb = true → hv = gh ∧ bw = gb) := fun e => by subst e; exact ⟨hhv.symm, hbw.symm⟩
  have Hnv : Hid (nb = false → hv = 0 ∧ bw = 0) := fun e => by subst e; exact ⟨hhv.symm, hbw.symm⟩
  clear hhv hbw
  refine hgr.mono ?_
  clear hgr k0 k1
  rintro _ W8 ⟨rfl, hb8⟩
  have HB8 : Hid (Below w.heap.size w W8) := HB7.out.trans (hb8.mono HB7.out.size)
  have hV8 : W8.heap[vb]? = some (.cells #[.int .i64 1, .int .i64 XX, .int .i64 ZZ, .int .i64 0, .int .i64 lt] 50 (0, 0)) := (hb8.block _ (Array.getElem?_eq_some_iff.1 HV7.out).1).trans HV7.out
  have HO8 : Hid (W8.heap[w.heap.size + 1]? = some (.cells #[.int .i64 0, .int .i64 0, .int .i64 0, .int .i64 0, .int .i64 0] 50 (0, 0))) := (hb8.block _ (Array.getElem?_eq_some_iff.1 HO7.out).1).trans HO7.out
  clear hb8 HB7 HV7 HO7 HX7
  have c3 : W8.cell? ⟨vb, 3, none⟩ = some (.int .i64 0) := (cell_of_row W8 vb 3 _ 50 (0, 0) hV8).trans rfl
  have f3 : W8.frozen? ⟨vb, 3, none⟩ = false := frozen_of_row W8 vb 3 _ 50 hV8
  go_upto_region 18 with fail
  have HV9 : Hid ((W8.setCell ⟨vb, 3, none⟩ (.int .i64 hv)).heap[vb]? = some (.cells #[.int .i64 1, .int .i64 XX, .int .i64 ZZ, .int .i64 hv, .int .i64 lt] 50 (0, 0))) := by show _ = _; rw [heap_setCell_same W8 vb 3 _ 50 _ hV8]; rfl
  have HO9 : Hid ((W8.setCell ⟨vb, 3, none⟩ (.int .i64 hv)).heap[w.heap.size + 1]? = some (.cells #[.int .i64 0, .int .i64 0, .int .i64 0, .int .i64 0, .int .i64 0] 50 (0, 0))) := (Below.heap_setCell W8 ⟨vb, 3, none⟩ _ (w.heap.size + 1) hn1.out).trans HO8.out
  have HB9 : Hid (Below w.heap.size w (W8.setCell ⟨vb, 3, none⟩ (.int .i64 hv))) := HB8.out.setCell (p := ⟨vb, 3, none⟩) (by have := Hvb.out; show w.heap.size ≤ vb; omega) _
  generalize W8.setCell ⟨vb, 3, none⟩ (.int .i64 hv) = W9 at *
  clear c3 f3 hV8 HO8 HB8 W8
  have c0 : W9.cell? ⟨vb, 0, none⟩ = some (.int .i64 1) := (cell_of_row W9 vb 0 _ 50 (0, 0) HV9.out).trans rfl
  have c1 : W9.cell? ⟨vb, 1, none⟩ = some (.int .i64 XX) := (cell_of_row W9 vb 1 _ 50 (0, 0) HV9.out).trans rfl
  have c2 : W9.cell? ⟨vb, 2, none⟩ = some (.int .i64 ZZ) := (cell_of_row W9 vb 2 _ 50 (0, 0) HV9.out).trans rfl
  have c3 : W9.cell? ⟨vb, 3, none⟩ = some (.int .i64 hv) := (cell_of_row W9 vb 3 _ 50 (0, 0) HV9.out).trans rfl
  have c4 : W9.cell? ⟨vb, 4, none⟩ = some (.int .i64 lt) := (cell_of_row W9 vb 4 _ 50 (0, 0) HV9.out).trans rfl
  have o0 : W9.cell? ⟨w.heap.size + 1, 0, none⟩ = some (.int .i64 0) := (cell_of_row W9 (w.heap.size + 1) 0 _ 50 (0, 0) HO9.out).trans rfl
  have f0 : W9.frozen? ⟨w.heap.size + 1, 0, none⟩ = false := frozen_of_row W9 (w.heap.size + 1) 0 _ 50 HO9.out
  have o1 : W9.cell? ⟨w.heap.size + 1, 1, none⟩ = some (.int .i64 0) := (cell_of_row W9 (w.heap.size + 1) 1 _ 50 (0, 0) HO9.out).trans rfl
  have f1 : W9.frozen? ⟨w.heap.size + 1, 1, none⟩ = false := frozen_of_row W9 (w.heap.size + 1) 1 _ 50 HO9.out
  have o2 : W9.cell? ⟨w.heap.size + 1, 2, none⟩ = some (.int .i64 0) := (cell_of_row W9 (w.heap.size + 1) 2 _ 50 (0, 0) HO9.out).trans rfl
  have f2 : W9.frozen? ⟨w.heap.size + 1, 2, none⟩ = false := frozen_of_row W9 (w.heap.size + 1) 2 _ 50 HO9.out
  have o3 : W9.cell? ⟨w.heap.size + 1, 3, none⟩ = some (.int .i64 0) := (cell_of_row W9 (w.heap.size + 1) 3 _ 50 (0, 0) HO9.out).trans rfl
  have f3 : W9.frozen? ⟨w.heap.size + 1, 3, none⟩ = false := frozen_of_row W9 (w.heap.size + 1) 3 _ 50 HO9.out
  have o4 : W9.cell? ⟨w.heap.size + 1, 4, none⟩ = some (.int .i64 0) := (cell_of_row W9 (w.heap.size + 1) 4 _ 50 (0, 0) HO9.out).trans rfl
  have f4 : W9.frozen? ⟨w.heap.size + 1, 4, none⟩ = false := frozen_of_row W9 (w.heap.size + 1) 4 _ 50 HO9.out
  have Hyes : Hid ((nb && standB 1 h gh gb) = nb → Post (.returned (.tuple #[.agg #[.int .i64 1, .int .i64 XX, .int .i64 ZZ, .int .i64 hv, .int .i64 lt], .bool nb])) (set5 W9 (w.heap.size + 1) (.int .i64 1) (.int .i64 XX) (.int .i64 ZZ) (.int .i64 hv) (.int .i64 lt))) := fun e => HP.out _ _ ⟨set5_below HB9.out _ _ _ _ _, 1, XX, ZZ, hv, lt, by
      rw [Hth2.out, e]
      rcases nb with _ | _ <;> rfl, fun t ht => by
      rw [Hth2.out, e] at ht
      rcases nb with _ | _
      · cases ht
      · injection ht with ht
        rw [← ht]
        exact ⟨rfl, rfl, rfl, (Hhv.out rfl).1, rfl⟩⟩
  have Hno : Hid ((nb && standB 1 h gh gb) = false → Post (.returned (.tuple #[.agg #[.int .i64 0, .int .i64 0, .int .i64 0, .int .i64 0, .int .i64 0], .bool false])) (set5 W9 (w.heap.size + 1) (.int .i64 0) (.int .i64 0) (.int .i64 0) (.int .i64 0) (.int .i64 0))) := fun e => HP.out _ _ ⟨set5_below HB9.out _ _ _ _ _, 0, 0, 0, 0, 0, by rw [Hth2.out, e]; rfl, fun t ht => by rw [Hth2.out, e] at ht; cases ht⟩
  have HS5 : Hid (∀ v0 v1 v2 v3 v4 : Value, (set5 W9 (w.heap.size + 1) v0 v1 v2 v3 v4).heap[w.heap.size + 1]? = some (.cells #[v0, v1, v2, v3, v4] 50 (0, 0))) := fun v0 v1 v2 v3 v4 => set5_row HO9.out v0 v1 v2 v3 v4
  have Hst : Hid (∀ g1 g2 : Int, standB 1 h g1 g2 = decide (g2 = 0)) := fun _ _ => rfl
  clear HP Hth2 HO9 HB9 HV9
  by_cases q : bw = 0
  case neg =>
    have q' : (bw == 0) = false := by simpa using q
    have R := Hno.out (by
      rcases nb with _ | _
      · rfl
      · rw [Hst.out, decide_eq_false (fun e => q ((Hhv.out rfl).2.trans e))]; rfl)
    clear Hyes Hno Hst Hhv Hnv
    go_wp2
    exact bodyPost_ret (results_row_tmp (p := 14) (u := 15) (ty := 50) rfl _ _ (w.heap.size + 1) 50 _ (0, 0) _ rfl (HS5.out _ _ _ _ _) Try.underlying50 rfl (by kernel_rfl)) rfl R
  have q' : (bw == 0) = true := by simpa using q
  have R := Hyes.out (by
    rcases nb with _ | _
    · rfl
    · rw [Hst.out, decide_eq_true ((Hhv.out rfl).2.symm.trans q)]; rfl)
  clear Hyes Hno Hst Hhv Hnv
  go_wp2
  exact bodyPost_ret (results_row_tmp (p := 14) (u := 15) (ty := 50) rfl _ _ (w.heap.size + 1) 50 _ (0, 0) _ rfl (HS5.out _ _ _ _ _) Try.underlying50 rfl (by kernel_rfl)) rfl R
set_option maxRecDepth 100000 in
set_option maxHeartbeats 4000000 in
theorem rthing2_c (S : Nat) (cx cz ox oz : Int) (a a' : Option Addr) (c c' : Nat) (hs bs : List (List Int)) (w : World) (hS : S < 18446744073709551616) (hx : -10000000000000 ≤ ox ∧ ox ≤ 10000000000000) (hz : -10000000000000 ≤ oz ∧ oz ≤ 10000000000000) (hcx : -1000000000000000 ≤ cx ∧ cx ≤ 1000000000000000) (hcz : -1000000000000000 ≤ cz ∧ cz ≤ 1000000000000000)
    (hH : Rows2 w a hs) (hB : Rows2 w a' bs) (oH : okG 128 hs) (oB : okG 4 bs) :
    Calls Try.prog 32 #[.int .u64 S, .agg #[.int .i64 cx, .int .i64 cz], .slice a 9 c, .slice a' 9 c', .int .i64 2, .int .i64 ox, .int .i64 oz] w (RtSay (thingN S 2 cx cz hs bs ox oz) w) := by
  have hTe : thingN S 2 cx cz hs bs ox oz = thingH 2 (R.hashN S 40 ox 0 oz) cx cz hs bs ox oz := rfl
  rw [hTe]
  clear hTe
  have hlt := R.hashN_lt S 40 ox 0 oz
  have hh := fun w => R.rhash_any S 40 ox 0 oz w hS
  generalize R.hashN S 40 ox 0 oz = h at *
  have hb := fun w => R.rbelow_any h 100 w hlt (by omega)
  obtain ⟨Post, hPost⟩ : ∃ Post : Ending → World → Prop, Post = RtSay (thingH 2 h cx cz hs bs ox oz) w := ⟨_, rfl⟩
  rw [← hPost]
  have HP : Hid (∀ e w', RtSay (thingH 2 h cx cz hs bs ox oz) w e w' → Post e w') := fun e w' h => by rw [hPost]; exact h
  clear hPost
  have Hbv : Hid (∀ b : Int, R.belowN h 100 = b → ∀ t, thingH 2 h cx cz hs bs ox oz = some t → b < 70) := fun b e t ht => by rw [← e]; exact (thing_is ht).2.1
  have Hth : Hid (thingH 2 h cx cz hs bs ox oz = if (decide (R.belowN h 100 < 70) && nearB cx cz (colX 2 h ox) (colZ 2 h oz) && standB 2 h (gAt cx cz hs (colX 2 h ox) (colZ 2 h oz)) (gAt cx cz bs (colX 2 h ox) (colZ 2 h oz))) = true then some ⟨2, colX 2 h ox, colZ 2 h oz, gAt cx cz hs (colX 2 h ox) (colZ 2 h oz), lenT h⟩ else none) := rfl
  have HHs : Hid (Rows2 w a hs ∧ okG 128 hs) := ⟨hH, oH⟩
  have HBs : Hid (Rows2 w a' bs ∧ okG 4 bs) := ⟨hB, oB⟩
  obtain ⟨bv, hbv⟩ : ∃ b : Int, R.belowN h 100 = b := ⟨_, rfl⟩
  rw [hbv] at hb Hth
  have Hb : Hid (∀ w, Calls Try.prog 52 #[.int .u64 (h : Int), .int .i64 100] w fun e w' => e = .returned (.int .i64 bv) ∧ Below w.heap.size w w') := fun w => (hb w).mono fun _ _ ⟨h1, e⟩ => ⟨h1, by rw [e]; exact Below.refl _ _⟩
  clear hb hbv Hbv hH hB oH oB
  obtain ⟨x0, x1⟩ := hx
  obtain ⟨z0, z1⟩ := hz
  go_enter Try.func32, Try.ntmps32
  go_wp2_with fail
  refine (hh _).mono ?_
  clear hh
  rintro _ w1 ⟨rfl, hb1⟩
  obtain ⟨hX1, hO1, _, hS1, hM1, hbw⟩ := new5 w _ _ _ _ _ hb1
  have HX1 : Hid (w1.heap[w.heap.size]? = some (.cells #[.int .i64 cx, .int .i64 cz] 31 (0, 0))) := hX1
  have HO1 : Hid (w1.heap[w.heap.size + 1]? = some (.cells #[.int .i64 0, .int .i64 0, .int .i64 0, .int .i64 0, .int .i64 0] 50 (0, 0))) := hO1
  have HS1 : Hid (w1.heap[w.heap.size + 1 + 1 + 1]? = some (.cells #[.int .i64 32, .int .i64 16, .int .i64 8] 81 (0, 0))) := hS1
  have HB1 : Hid (Below w.heap.size w w1) := hbw
  have hsome := since_some w1
  have k0 := fun s : Since w1 => Since.cell ((cell_of_row w1 (w.heap.size + 1 + 1 + 1 + 1) 2 _ 81 (0, 0) hM1).trans rfl) s
  clear hb1 hX1 hO1 hS1 hbw
  go_wp2_with fail
  refine wp_region_since (by kernel_rfl) (by kernel_rfl) ?_
  repeat (go_big_quiet_step (first | (go_at_call 52; exact Calls.since (Hb.out _))))
  refine wpQuiet_nil ?_
  rintro _ ⟨s, rfl⟩
  have HB2 : Hid (Below w.heap.size w s.w) := HB1.out.trans (s.bel.mono HB1.out.size)
  have HX2 : Hid (s.w.heap[w.heap.size]? = some (.cells #[.int .i64 cx, .int .i64 cz] 31 (0, 0))) := (s.bel.block _ (Array.getElem?_eq_some_iff.1 HX1.out).1).trans HX1.out
  have HO2 : Hid (s.w.heap[w.heap.size + 1]? = some (.cells #[.int .i64 0, .int .i64 0, .int .i64 0, .int .i64 0, .int .i64 0] 50 (0, 0))) := (s.bel.block _ (Array.getElem?_eq_some_iff.1 HO1.out).1).trans HO1.out
  have HS2 : Hid (s.w.heap[w.heap.size + 1 + 1 + 1]? = some (.cells #[.int .i64 32, .int .i64 16, .int .i64 8] 81 (0, 0))) := (s.bel.block _ (Array.getElem?_eq_some_iff.1 HS1.out).1).trans HS1.out
  generalize s.w = W2 at *
  clear hsome k0 HB1 HX1 HO1 HS1 hM1
  by_cases hbv : bv < 70
  case neg =>
    have hbv' : 70 ≤ bv := by omega
    have c0 : W2.cell? ⟨w.heap.size + 1, 0, none⟩ = some (.int .i64 0) := (cell_of_row W2 (w.heap.size + 1) 0 _ 50 (0, 0) HO2.out).trans rfl
    have f0 : W2.frozen? ⟨w.heap.size + 1, 0, none⟩ = false := frozen_of_row W2 (w.heap.size + 1) 0 _ 50 HO2.out
    have c1 : W2.cell? ⟨w.heap.size + 1, 1, none⟩ = some (.int .i64 0) := (cell_of_row W2 (w.heap.size + 1) 1 _ 50 (0, 0) HO2.out).trans rfl
    have f1 : W2.frozen? ⟨w.heap.size + 1, 1, none⟩ = false := frozen_of_row W2 (w.heap.size + 1) 1 _ 50 HO2.out
    have c2 : W2.cell? ⟨w.heap.size + 1, 2, none⟩ = some (.int .i64 0) := (cell_of_row W2 (w.heap.size + 1) 2 _ 50 (0, 0) HO2.out).trans rfl
    have f2 : W2.frozen? ⟨w.heap.size + 1, 2, none⟩ = false := frozen_of_row W2 (w.heap.size + 1) 2 _ 50 HO2.out
    have c3 : W2.cell? ⟨w.heap.size + 1, 3, none⟩ = some (.int .i64 0) := (cell_of_row W2 (w.heap.size + 1) 3 _ 50 (0, 0) HO2.out).trans rfl
    have f3 : W2.frozen? ⟨w.heap.size + 1, 3, none⟩ = false := frozen_of_row W2 (w.heap.size + 1) 3 _ 50 HO2.out
    have c4 : W2.cell? ⟨w.heap.size + 1, 4, none⟩ = some (.int .i64 0) := (cell_of_row W2 (w.heap.size + 1) 4 _ 50 (0, 0) HO2.out).trans rfl
    have f4 : W2.frozen? ⟨w.heap.size + 1, 4, none⟩ = false := frozen_of_row W2 (w.heap.size + 1) 4 _ 50 HO2.out
    have R := HP.out _ _ (show RtSay (thingH 2 h cx cz hs bs ox oz) w (.returned (.tuple #[.agg #[.int .i64 0, .int .i64 0, .int .i64 0, .int .i64 0, .int .i64 0], .bool false])) (set5 W2 (w.heap.size + 1) (.int .i64 0) (.int .i64 0) (.int .i64 0) (.int .i64 0) (.int .i64 0)) from by
      have hn : thingH 2 h cx cz hs bs ox oz = none := by rw [Hth.out, decide_eq_false hbv]; rfl
      rw [hn]
      exact ⟨set5_below HB2.out _ _ _ _ _, 0, 0, 0, 0, 0, rfl, fun t ht => by cases ht⟩)
    have HS5 : Hid ((set5 W2 (w.heap.size + 1) (.int .i64 0) (.int .i64 0) (.int .i64 0) (.int .i64 0) (.int .i64 0)).heap[w.heap.size + 1]? = some (.cells #[.int .i64 0, .int .i64 0, .int .i64 0, .int .i64 0, .int .i64 0] 50 (0, 0))) := set5_row HO2.out _ _ _ _ _
    clear HP Hth HHs HBs HB2 HX2 HO2 HS2 Hb
    go_wp2
    exact bodyPost_ret (results_row_tmp (p := 14) (u := 15) (ty := 50) rfl _ _ (w.heap.size + 1) 50 _ (0, 0) _ rfl HS5.out Try.underlying50 rfl (by kernel_rfl)) rfl R
  have hbv' : ¬ 70 ≤ bv := by omega
  have Hth2 : Hid (thingH 2 h cx cz hs bs ox oz = if (nearB cx cz (colX 2 h ox) (colZ 2 h oz) && standB 2 h (gAt cx cz hs (colX 2 h ox) (colZ 2 h oz)) (gAt cx cz bs (colX 2 h ox) (colZ 2 h oz))) = true then some ⟨2, colX 2 h ox, colZ 2 h oz, gAt cx cz hs (colX 2 h ox) (colZ 2 h oz), lenT h⟩ else none) := by show _ = _; rw [Hth.out, decide_eq_true hbv, Bool.true_and]
  clear Hth Hb hbv
  have e4 : bits .and .i64 ((h : Int) / 65536) 3 = ((h / 65536 % 4 : Nat) : Int) := by rw [and3]; omega
  have HL : Hid (lenT h = 4 + ((h / 65536 % 4 : Nat) : Int)) := rfl
  have b4 : h / 65536 % 4 < 4 := Nat.mod_lt _ (by omega)
  generalize h / 65536 % 4 = M4 at *
  obtain ⟨lt, hlt4⟩ : ∃ l : Int, (4 : Int) + (M4 : Int) = l := ⟨_, rfl⟩
  have wl : IntKind.i64.wrap (4 + (M4 : Int)) = lt := by rw [IntKind.wrap_i64]; omega
  rw [hlt4] at HL
  have wx : IntKind.i64.wrap (8 * ox) = 8 * ox := by rw [IntKind.wrap_i64]; omega
  have wz : IntKind.i64.wrap (8 * oz) = 8 * oz := by rw [IntKind.wrap_i64]; omega
  have hcw2 : IntKind.i64.wrap ((h : Int) / 65536) = (h : Int) / 65536 := wrap_in _ (shr_in h 65536 (by omega) hlt).1 (shr_in h 65536 (by omega) hlt).2
  clear hlt4
  go_wp2_with fail
  refine region_L (fun w' => Below W2.heap.size W2 w') 19 (by kernel_rfl) ?_
  have hHeld : Below W2.heap.size W2 W2.drew := (Below.refl _ _).drew
  have HB3 : Hid (Below w.heap.size w W2.drew) := HB2.out.drew
  have HX3 : Hid (W2.drew.heap[w.heap.size]? = some (.cells #[.int .i64 cx, .int .i64 cz] 31 (0, 0))) := HX2.out
  have HO3 : Hid (W2.drew.heap[w.heap.size + 1]? = some (.cells #[.int .i64 0, .int .i64 0, .int .i64 0, .int .i64 0, .int .i64 0] 50 (0, 0))) := HO2.out
  have k0 : ∀ s : Sub (fun w' => Below W2.heap.size W2 w'), s.w.cell? ⟨w.heap.size + 1 + 1 + 1, 2, none⟩ = some (.int .i64 8) := fun s => cell_below ((cell_of_row W2 (w.heap.size + 1 + 1 + 1) 2 _ 81 (0, 0) HS2.out).trans rfl) s.ok
  have hne : Nonempty (Sub (fun w' => Below W2.heap.size W2 w')) := ⟨⟨_, hHeld⟩⟩
  clear HB2 HX2 HO2
  generalize W2.drew = W3 at *
  refine take_L (i := 0) rfl (by kernel_rfl) (by kernel_rfl) (by kernel_rfl) (by kernel_rfl) (fun _ _ _ _ h => h) (by exact hHeld) (fun K hK => ?_)
  go_simp
  refine hK _ ?_
  clear hK K
  refine take_L (i := 1) rfl (by kernel_rfl) (by kernel_rfl) (by kernel_rfl) (by kernel_rfl) (fun _ _ _ _ h => h) (by exact hHeld) (fun K hK => ?_)
  go_simp
  refine hK _ ?_
  clear hK K
  refine take_L (i := 2) rfl (by kernel_rfl) (by kernel_rfl) (by kernel_rfl) (by kernel_rfl) (fun _ _ _ _ h => h) (by exact hHeld) (fun K hK => ?_)
  go_simp
  refine hK _ ?_
  clear hK K
  refine take_L (i := 3) rfl (by kernel_rfl) (by kernel_rfl) (by kernel_rfl) (by kernel_rfl) (fun _ _ _ _ h => h) (by exact hHeld) (fun K hK => ?_)
  go_simp
  refine hK _ ?_
  clear hK K
  refine take_L (i := 4) rfl (by kernel_rfl) (by kernel_rfl) (by kernel_rfl) (by kernel_rfl) (fun _ _ _ _ h => h) (by exact hHeld) (fun K hK => ?_)
  go_simp
  refine hK _ ?_
  clear hK K
  refine take_L (i := 5) rfl (by kernel_rfl) (by kernel_rfl) (by kernel_rfl) (by kernel_rfl) (fun _ _ _ _ h => h) (by exact hHeld) (fun K hK => ?_)
  go_simp
  refine hK _ ?_
  clear hK K
  refine take_L (i := 6) rfl (by kernel_rfl) (by kernel_rfl) (by kernel_rfl) (by kernel_rfl) (fun _ _ _ _ h => h) (by exact hHeld) (fun K hK => ?_)
  go_simp
  refine hK _ ?_
  clear hK K
  refine take_L (i := 7) rfl (by kernel_rfl) (by kernel_rfl) (by kernel_rfl) (by kernel_rfl) (fun _ _ _ _ h => h) (by exact hHeld) (fun K hK => ?_)
  go_simp
  refine hK _ ?_
  clear hK K
  refine take_L (i := 8) rfl (by kernel_rfl) (by kernel_rfl) (by kernel_rfl) (by kernel_rfl) (fun _ _ _ _ h => h) (by exact hHeld) (fun K hK => ?_)
  go_simp
  refine hK _ ?_
  clear hK K
  refine take_L (i := 9) rfl (by kernel_rfl) (by kernel_rfl) (by kernel_rfl) (by kernel_rfl) (fun _ _ _ _ h => h) (by exact hHeld) (fun K hK => ?_)
  go_simp
  refine hK _ ?_
  clear hK K
  refine take_L (i := 10) rfl (by kernel_rfl) (by kernel_rfl) (by kernel_rfl) (by kernel_rfl) (fun _ _ _ _ h => h) (by exact hHeld) (fun K hK => ?_)
  go_simp
  refine hK _ ?_
  clear hK K
  refine take_L (i := 11) rfl (by kernel_rfl) (by kernel_rfl) (by kernel_rfl) (by kernel_rfl) (fun _ _ _ _ h => h) (by exact hHeld) (fun K hK => ?_)
  go_simp
  refine hK _ ?_
  clear hK K
  refine take_L (i := 12) rfl (by kernel_rfl) (by kernel_rfl) (by kernel_rfl) (by kernel_rfl) (fun _ _ _ _ h => h) (by exact hHeld) (fun K hK => ?_)
  go_simp
  refine hK _ ?_
  clear hK K
  refine take_L (i := 13) rfl (by kernel_rfl) (by kernel_rfl) (by kernel_rfl) (by kernel_rfl) (fun _ _ _ _ h => h) (by exact hHeld) (fun K hK => ?_)
  go_simp
  refine hK _ ?_
  clear hK K
  refine take_L (i := 14) rfl (by kernel_rfl) (by kernel_rfl) (by kernel_rfl) (by kernel_rfl) (fun _ _ _ _ h => h) (by exact hHeld) (fun K hK => ?_)
  go_simp
  refine hK _ ?_
  clear hK K
  refine take_L (i := 15) rfl (by kernel_rfl) (by kernel_rfl) (by kernel_rfl) (by kernel_rfl) (fun _ _ _ _ h => h) (by exact hHeld) (fun K hK => ?_)
  go_simp
  refine hK _ ?_
  clear hK K
  refine take_L (i := 16) rfl (by kernel_rfl) (by kernel_rfl) (by kernel_rfl) (by kernel_rfl) (fun _ _ _ _ h => h) (by exact hHeld) (fun K hK => ?_)
  go_simp
  refine hK _ ?_
  clear hK K
  refine one_L (i := 17) (by kernel_rfl) rfl (fun K hK => ?_)
  go_simp
  have Hv2 : Hid (W2.heap.size ≤ W3.heap.size) := hHeld.size
  replace hHeld : Below W2.heap.size W2 (W3.alloc (.cells #[.int .i64 0, .int .i64 0, .int .i64 0, .int .i64 0, .int .i64 0] 50)) := hHeld.alloc hHeld.size _
  refine hK.out _ _ (fun _ => hHeld) ?_
  clear hK K k0 hne wx wz wl hcw2 e4
  have HB4 : Hid (Below w.heap.size w (W3.alloc (.cells #[.int .i64 0, .int .i64 0, .int .i64 0, .int .i64 0, .int .i64 0] 50))) := HB3.out.alloc HB3.out.size _
  have HX4 : Hid ((W3.alloc (.cells #[.int .i64 0, .int .i64 0, .int .i64 0, .int .i64 0, .int .i64 0] 50)).heap[w.heap.size]? = some (.cells #[.int .i64 cx, .int .i64 cz] 31 (0, 0))) := (heap_alloc_old W3 _ (Array.getElem?_eq_some_iff.1 HX3.out).1).trans HX3.out
  have HO4 : Hid ((W3.alloc (.cells #[.int .i64 0, .int .i64 0, .int .i64 0, .int .i64 0, .int .i64 0] 50)).heap[w.heap.size + 1]? = some (.cells #[.int .i64 0, .int .i64 0, .int .i64 0, .int .i64 0, .int .i64 0] 50 (0, 0))) := (heap_alloc_old W3 _ (Array.getElem?_eq_some_iff.1 HO3.out).1).trans HO3.out
  have HV4 : Hid ((W3.alloc (.cells #[.int .i64 0, .int .i64 0, .int .i64 0, .int .i64 0, .int .i64 0] 50)).heap[W3.heap.size]? = some (.cells #[.int .i64 0, .int .i64 0, .int .i64 0, .int .i64 0, .int .i64 0] 50 (0, 0))) := heap_alloc_new W3 _
  have Hvb : Hid (w.heap.size + 1 < W3.heap.size) := (Array.getElem?_eq_some_iff.1 HO3.out).1
  generalize W3.alloc _ = W4 at *
  generalize W3.heap.size = vb at *
  clear HB3 HX3 HO3 W3
  have c0 : W4.cell? ⟨vb, 0, none⟩ = some (.int .i64 0) := (cell_of_row W4 vb 0 _ 50 (0, 0) HV4.out).trans rfl
  have f0 : W4.frozen? ⟨vb, 0, none⟩ = false := frozen_of_row W4 vb 0 _ 50 HV4.out
  have c1 : W4.cell? ⟨vb, 1, none⟩ = some (.int .i64 0) := (cell_of_row W4 vb 1 _ 50 (0, 0) HV4.out).trans rfl
  have f1 : W4.frozen? ⟨vb, 1, none⟩ = false := frozen_of_row W4 vb 1 _ 50 HV4.out
  have c2 : W4.cell? ⟨vb, 2, none⟩ = some (.int .i64 0) := (cell_of_row W4 vb 2 _ 50 (0, 0) HV4.out).trans rfl
  have f2 : W4.frozen? ⟨vb, 2, none⟩ = false := frozen_of_row W4 vb 2 _ 50 HV4.out
  have c3 : W4.cell? ⟨vb, 3, none⟩ = some (.int .i64 0) := (cell_of_row W4 vb 3 _ 50 (0, 0) HV4.out).trans rfl
  have f3 : W4.frozen? ⟨vb, 3, none⟩ = false := frozen_of_row W4 vb 3 _ 50 HV4.out
  have c4 : W4.cell? ⟨vb, 4, none⟩ = some (.int .i64 0) := (cell_of_row W4 vb 4 _ 50 (0, 0) HV4.out).trans rfl
  have f4 : W4.frozen? ⟨vb, 4, none⟩ = false := frozen_of_row W4 vb 4 _ 50 HV4.out
  refine one_L (i := 18) (by kernel_rfl) rfl (fun K hK => ?_)
  go_simp
  refine hK.out _ _ (fun _ => set5_below hHeld _ _ _ _ _ Hv2.out) ?_
  clear hK K
  refine done_L (by kernel_rfl) ?_ _
  have HV5 : Hid ((set5 W4 vb (.int .i64 2) (.int .i64 (8 * ox)) (.int .i64 (8 * oz)) (.int .i64 0) (.int .i64 lt)).heap[vb]? = some (.cells #[.int .i64 2, .int .i64 (8 * ox), .int .i64 (8 * oz), .int .i64 0, .int .i64 lt] 50 (0, 0))) := set5_row HV4.out _ _ _ _ _
  have HX5 : Hid ((set5 W4 vb (.int .i64 2) (.int .i64 (8 * ox)) (.int .i64 (8 * oz)) (.int .i64 0) (.int .i64 lt)).heap[w.heap.size]? = some (.cells #[.int .i64 cx, .int .i64 cz] 31 (0, 0))) := (set5_other (by have := Hvb.out; omega) _ _ _ _ _).trans HX4.out
  have HO5 : Hid ((set5 W4 vb (.int .i64 2) (.int .i64 (8 * ox)) (.int .i64 (8 * oz)) (.int .i64 0) (.int .i64 lt)).heap[w.heap.size + 1]? = some (.cells #[.int .i64 0, .int .i64 0, .int .i64 0, .int .i64 0, .int .i64 0] 50 (0, 0))) := (set5_other (by have := Hvb.out; omega) _ _ _ _ _).trans HO4.out
  have HB5 : Hid (Below w.heap.size w (set5 W4 vb (.int .i64 2) (.int .i64 (8 * ox)) (.int .i64 (8 * oz)) (.int .i64 0) (.int .i64 lt))) := set5_below HB4.out _ _ _ _ _ (by have := Hvb.out; omega)
  unfold set5 at HV5 HX5 HO5 HB5
  generalize ((((W4.setCell ⟨vb, 0, none⟩ (.int .i64 2)).setCell ⟨vb, 1, none⟩ (.int .i64 (8 * ox))).setCell ⟨vb, 2, none⟩ (.int .i64 (8 * oz))).setCell ⟨vb, 3, none⟩ (.int .i64 0)).setCell ⟨vb, 4, none⟩ (.int .i64 lt) = W5 at *
  clear c0 c1 c2 c3 c4 f0 f1 f2 f3 f4 HV4 HX4 HO4 HB4 hHeld Hv2 HS2 W4
  have c0 : W5.cell? ⟨vb, 0, none⟩ = some (.int .i64 2) := (cell_of_row W5 vb 0 _ 50 (0, 0) HV5.out).trans rfl
  have f0 : W5.frozen? ⟨vb, 0, none⟩ = false := frozen_of_row W5 vb 0 _ 50 HV5.out
  have c1 : W5.cell? ⟨vb, 1, none⟩ = some (.int .i64 (8 * ox)) := (cell_of_row W5 vb 1 _ 50 (0, 0) HV5.out).trans rfl
  have f1 : W5.frozen? ⟨vb, 1, none⟩ = false := frozen_of_row W5 vb 1 _ 50 HV5.out
  have c2 : W5.cell? ⟨vb, 2, none⟩ = some (.int .i64 (8 * oz)) := (cell_of_row W5 vb 2 _ 50 (0, 0) HV5.out).trans rfl
  have f2 : W5.frozen? ⟨vb, 2, none⟩ = false := frozen_of_row W5 vb 2 _ 50 HV5.out
  have c3 : W5.cell? ⟨vb, 3, none⟩ = some (.int .i64 0) := (cell_of_row W5 vb 3 _ 50 (0, 0) HV5.out).trans rfl
  have f3 : W5.frozen? ⟨vb, 3, none⟩ = false := frozen_of_row W5 vb 3 _ 50 HV5.out
  have c4 : W5.cell? ⟨vb, 4, none⟩ = some (.int .i64 lt) := (cell_of_row W5 vb 4 _ 50 (0, 0) HV5.out).trans rfl
  have f4 : W5.frozen? ⟨vb, 4, none⟩ = false := frozen_of_row W5 vb 4 _ 50 HV5.out
  have e1 : bits .and .i64 ((h : Int) / 256) 7 = ((h / 256 % 8 : Nat) : Int) := by rw [and7]; omega
  have e2 : bits .and .i64 ((h : Int) / 2048) 7 = ((h / 2048 % 8 : Nat) : Int) := by rw [and7]; omega
  have HcX : Hid (colX 2 h ox = 8 * ox + ((h / 256 % 8 : Nat) : Int)) := rfl
  have HcZ : Hid (colZ 2 h oz = 8 * oz + ((h / 2048 % 8 : Nat) : Int)) := rfl
  have b1 : h / 256 % 8 < 8 := Nat.mod_lt _ (by omega)
  have b2 : h / 2048 % 8 < 8 := Nat.mod_lt _ (by omega)
  generalize h / 256 % 8 = M1 at *
  generalize h / 2048 % 8 = M2 at *
  have k0 : W5.cell? ⟨w.heap.size, 0, none⟩ = some (.int .i64 cx) := (cell_of_row W5 w.heap.size 0 _ 31 (0, 0) HX5.out).trans rfl
  have k1 : W5.cell? ⟨w.heap.size, 1, none⟩ = some (.int .i64 cz) := (cell_of_row W5 w.heap.size 1 _ 31 (0, 0) HX5.out).trans rfl
  have hnv : ¬ w.heap.size = vb := by have := Hvb.out; omega
  have hn0 : Hid (w.heap.size ≠ vb) := hnv
  have hn1 : Hid (w.heap.size + 1 ≠ vb) := by show _ ≠ _; have := Hvb.out; omega
  go_upto_region 16 with fail
  have HV7 : Hid (((W5.setCell ⟨vb, 1, none⟩ (.int .i64 (8 * ox + (M1 : Int)))).setCell ⟨vb, 2, none⟩ (.int .i64 (8 * oz + (M2 : Int)))).heap[vb]? = some (.cells #[.int .i64 2, .int .i64 (8 * ox + (M1 : Int)), .int .i64 (8 * oz + (M2 : Int)), .int .i64 0, .int .i64 lt] 50 (0, 0))) := by show _ = _; rw [heap_setCell_same _ vb 2 _ 50 _ (heap_setCell_same W5 vb 1 _ 50 _ HV5.out)]; rfl
  have HX7 : Hid (((W5.setCell ⟨vb, 1, none⟩ (.int .i64 (8 * ox + (M1 : Int)))).setCell ⟨vb, 2, none⟩ (.int .i64 (8 * oz + (M2 : Int)))).heap[w.heap.size]? = some (.cells #[.int .i64 cx, .int .i64 cz] 31 (0, 0))) := by show _ = _; rw [Below.heap_setCell _ ⟨vb, 2, none⟩ _ w.heap.size hn0.out, Below.heap_setCell _ ⟨vb, 1, none⟩ _ w.heap.size hn0.out]; exact HX5.out
  have HO7 : Hid (((W5.setCell ⟨vb, 1, none⟩ (.int .i64 (8 * ox + (M1 : Int)))).setCell ⟨vb, 2, none⟩ (.int .i64 (8 * oz + (M2 : Int)))).heap[w.heap.size + 1]? = some (.cells #[.int .i64 0, .int .i64 0, .int .i64 0, .int .i64 0, .int .i64 0] 50 (0, 0))) := by show _ = _; rw [Below.heap_setCell _ ⟨vb, 2, none⟩ _ (w.heap.size + 1) hn1.out, Below.heap_setCell _ ⟨vb, 1, none⟩ _ (w.heap.size + 1) hn1.out]; exact HO5.out
  have HB7 : Hid (Below w.heap.size w ((W5.setCell ⟨vb, 1, none⟩ (.int .i64 (8 * ox + (M1 : Int)))).setCell ⟨vb, 2, none⟩ (.int .i64 (8 * oz + (M2 : Int))))) := (HB5.out.setCell (p := ⟨vb, 1, none⟩) (by have := Hvb.out; show w.heap.size ≤ vb; omega) _).setCell (p := ⟨vb, 2, none⟩) (by have := Hvb.out; show w.heap.size ≤ vb; omega) _
  generalize (W5.setCell ⟨vb, 1, none⟩ (.int .i64 (8 * ox + (M1 : Int)))).setCell ⟨vb, 2, none⟩ (.int .i64 (8 * oz + (M2 : Int))) = W7 at *
  clear HV5 HX5 HO5 HB5
  clear c0 c1 c2 c3 c4 f0 f1 f2 f3 f4 k0 k1 W5
  obtain ⟨XX, hXX⟩ : ∃ v : Int, 8 * ox + (M1 : Int) = v := ⟨_, rfl⟩
  obtain ⟨ZZ, hZZ⟩ : ∃ v : Int, 8 * oz + (M2 : Int) = v := ⟨_, rfl⟩
  rw [hXX, hZZ] at HV7
  have c1 : W7.cell? ⟨vb, 1, none⟩ = some (.int .i64 XX) := (cell_of_row W7 vb 1 _ 50 (0, 0) HV7.out).trans rfl
  have c2 : W7.cell? ⟨vb, 2, none⟩ = some (.int .i64 ZZ) := (cell_of_row W7 vb 2 _ 50 (0, 0) HV7.out).trans rfl
  have k0 : W7.cell? ⟨w.heap.size, 0, none⟩ = some (.int .i64 cx) := (cell_of_row W7 w.heap.size 0 _ 31 (0, 0) HX7.out).trans rfl
  have k1 : W7.cell? ⟨w.heap.size, 1, none⟩ = some (.int .i64 cz) := (cell_of_row W7 w.heap.size 1 _ 31 (0, 0) HX7.out).trans rfl
  go_wp2_with fail
  clear c1 c2
  have hgr := rground_c cx cz XX ZZ a a' c c' hs bs W7 (by omega) (by omega) hcx hcz (HHs.out.1.on HB7.out) (HBs.out.1.on HB7.out) HHs.out.2 HBs.out.2
  have hge : toldG cx cz hs bs XX ZZ = .returned (.tuple #[.int .i64 (if nearB cx cz XX ZZ then gAt cx cz hs XX ZZ else 0), .int .i64 (if nearB cx cz XX ZZ then gAt cx cz bs XX ZZ else 0), .bool (nearB cx cz XX ZZ)]) := rfl
  rw [hge] at hgr
  clear hge
  rw [show 8 * ox + (M1 : Int) = XX from hXX] at HcX
  rw [show 8 * oz + (M2 : Int) = ZZ from hZZ] at HcZ
  rw [HcX.out, HcZ.out, HL.out] at Hth2
  clear HHs HBs HcX HcZ HL
  generalize nearB cx cz XX ZZ = nb at *
  generalize gAt cx cz hs XX ZZ = gh at *
  generalize gAt cx cz bs XX ZZ = gb at *
  obtain ⟨hv, hhv⟩ : ∃ v : Int, (if nb = true then gh else 0) = v := ⟨_, rfl⟩
  obtain ⟨bw, hbw⟩ : ∃ v : Int, (if nb = true then gb else 0) = v := ⟨_, rfl⟩
  rw [hhv, hbw] at hgr
  have Hhv : Hid (nb = true → hv = gh ∧ bw = gb) := fun e => by subst e; exact ⟨hhv.symm, hbw.symm⟩
  have Hnv : Hid (nb = false → hv = 0 ∧ bw = 0) := fun e => by subst e; exact ⟨hhv.symm, hbw.symm⟩
  clear hhv hbw
  refine hgr.mono ?_
  clear hgr k0 k1
  rintro _ W8 ⟨rfl, hb8⟩
  have HB8 : Hid (Below w.heap.size w W8) := HB7.out.trans (hb8.mono HB7.out.size)
  have hV8 : W8.heap[vb]? = some (.cells #[.int .i64 2, .int .i64 XX, .int .i64 ZZ, .int .i64 0, .int .i64 lt] 50 (0, 0)) := (hb8.block _ (Array.getElem?_eq_some_iff.1 HV7.out).1).trans HV7.out
  have HO8 : Hid (W8.heap[w.heap.size + 1]? = some (.cells #[.int .i64 0, .int .i64 0, .int .i64 0, .int .i64 0, .int .i64 0] 50 (0, 0))) := (hb8.block _ (Array.getElem?_eq_some_iff.1 HO7.out).1).trans HO7.out
  clear hb8 HB7 HV7 HO7 HX7
  have c3 : W8.cell? ⟨vb, 3, none⟩ = some (.int .i64 0) := (cell_of_row W8 vb 3 _ 50 (0, 0) hV8).trans rfl
  have f3 : W8.frozen? ⟨vb, 3, none⟩ = false := frozen_of_row W8 vb 3 _ 50 hV8
  go_upto_region 18 with fail
  have HV9 : Hid ((W8.setCell ⟨vb, 3, none⟩ (.int .i64 hv)).heap[vb]? = some (.cells #[.int .i64 2, .int .i64 XX, .int .i64 ZZ, .int .i64 hv, .int .i64 lt] 50 (0, 0))) := by show _ = _; rw [heap_setCell_same W8 vb 3 _ 50 _ hV8]; rfl
  have HO9 : Hid ((W8.setCell ⟨vb, 3, none⟩ (.int .i64 hv)).heap[w.heap.size + 1]? = some (.cells #[.int .i64 0, .int .i64 0, .int .i64 0, .int .i64 0, .int .i64 0] 50 (0, 0))) := (Below.heap_setCell W8 ⟨vb, 3, none⟩ _ (w.heap.size + 1) hn1.out).trans HO8.out
  have HB9 : Hid (Below w.heap.size w (W8.setCell ⟨vb, 3, none⟩ (.int .i64 hv))) := HB8.out.setCell (p := ⟨vb, 3, none⟩) (by have := Hvb.out; show w.heap.size ≤ vb; omega) _
  generalize W8.setCell ⟨vb, 3, none⟩ (.int .i64 hv) = W9 at *
  clear c3 f3 hV8 HO8 HB8 W8
  have c0 : W9.cell? ⟨vb, 0, none⟩ = some (.int .i64 2) := (cell_of_row W9 vb 0 _ 50 (0, 0) HV9.out).trans rfl
  have c1 : W9.cell? ⟨vb, 1, none⟩ = some (.int .i64 XX) := (cell_of_row W9 vb 1 _ 50 (0, 0) HV9.out).trans rfl
  have c2 : W9.cell? ⟨vb, 2, none⟩ = some (.int .i64 ZZ) := (cell_of_row W9 vb 2 _ 50 (0, 0) HV9.out).trans rfl
  have c3 : W9.cell? ⟨vb, 3, none⟩ = some (.int .i64 hv) := (cell_of_row W9 vb 3 _ 50 (0, 0) HV9.out).trans rfl
  have c4 : W9.cell? ⟨vb, 4, none⟩ = some (.int .i64 lt) := (cell_of_row W9 vb 4 _ 50 (0, 0) HV9.out).trans rfl
  have o0 : W9.cell? ⟨w.heap.size + 1, 0, none⟩ = some (.int .i64 0) := (cell_of_row W9 (w.heap.size + 1) 0 _ 50 (0, 0) HO9.out).trans rfl
  have f0 : W9.frozen? ⟨w.heap.size + 1, 0, none⟩ = false := frozen_of_row W9 (w.heap.size + 1) 0 _ 50 HO9.out
  have o1 : W9.cell? ⟨w.heap.size + 1, 1, none⟩ = some (.int .i64 0) := (cell_of_row W9 (w.heap.size + 1) 1 _ 50 (0, 0) HO9.out).trans rfl
  have f1 : W9.frozen? ⟨w.heap.size + 1, 1, none⟩ = false := frozen_of_row W9 (w.heap.size + 1) 1 _ 50 HO9.out
  have o2 : W9.cell? ⟨w.heap.size + 1, 2, none⟩ = some (.int .i64 0) := (cell_of_row W9 (w.heap.size + 1) 2 _ 50 (0, 0) HO9.out).trans rfl
  have f2 : W9.frozen? ⟨w.heap.size + 1, 2, none⟩ = false := frozen_of_row W9 (w.heap.size + 1) 2 _ 50 HO9.out
  have o3 : W9.cell? ⟨w.heap.size + 1, 3, none⟩ = some (.int .i64 0) := (cell_of_row W9 (w.heap.size + 1) 3 _ 50 (0, 0) HO9.out).trans rfl
  have f3 : W9.frozen? ⟨w.heap.size + 1, 3, none⟩ = false := frozen_of_row W9 (w.heap.size + 1) 3 _ 50 HO9.out
  have o4 : W9.cell? ⟨w.heap.size + 1, 4, none⟩ = some (.int .i64 0) := (cell_of_row W9 (w.heap.size + 1) 4 _ 50 (0, 0) HO9.out).trans rfl
  have f4 : W9.frozen? ⟨w.heap.size + 1, 4, none⟩ = false := frozen_of_row W9 (w.heap.size + 1) 4 _ 50 HO9.out
  have Hyes : Hid ((nb && standB 2 h gh gb) = nb → Post (.returned (.tuple #[.agg #[.int .i64 2, .int .i64 XX, .int .i64 ZZ, .int .i64 hv, .int .i64 lt], .bool nb])) (set5 W9 (w.heap.size + 1) (.int .i64 2) (.int .i64 XX) (.int .i64 ZZ) (.int .i64 hv) (.int .i64 lt))) := fun e => HP.out _ _ ⟨set5_below HB9.out _ _ _ _ _, 2, XX, ZZ, hv, lt, by
      rw [Hth2.out, e]
      rcases nb with _ | _ <;> rfl, fun t ht => by
      rw [Hth2.out, e] at ht
      rcases nb with _ | _
      · cases ht
      · injection ht with ht
        rw [← ht]
        exact ⟨rfl, rfl, rfl, (Hhv.out rfl).1, rfl⟩⟩
  have Hno : Hid ((nb && standB 2 h gh gb) = false → Post (.returned (.tuple #[.agg #[.int .i64 0, .int .i64 0, .int .i64 0, .int .i64 0, .int .i64 0], .bool false])) (set5 W9 (w.heap.size + 1) (.int .i64 0) (.int .i64 0) (.int .i64 0) (.int .i64 0) (.int .i64 0))) := fun e => HP.out _ _ ⟨set5_below HB9.out _ _ _ _ _, 0, 0, 0, 0, 0, by rw [Hth2.out, e]; rfl, fun t ht => by rw [Hth2.out, e] at ht; cases ht⟩
  have HS5 : Hid (∀ v0 v1 v2 v3 v4 : Value, (set5 W9 (w.heap.size + 1) v0 v1 v2 v3 v4).heap[w.heap.size + 1]? = some (.cells #[v0, v1, v2, v3, v4] 50 (0, 0))) := fun v0 v1 v2 v3 v4 => set5_row HO9.out v0 v1 v2 v3 v4
  have Hst : Hid (∀ g1 g2 : Int, standB 2 h g1 g2 = decide (44 ≤ g1 ∧ (g2 = 1 ∨ (g2 = 0 ∧ h / 16384 % 4 = 0)))) := fun _ _ => rfl
  clear HP Hth2 HO9 HB9 HV9
  have e3 : bits .and .i64 ((h : Int) / 16384) 3 = ((h / 16384 % 4 : Nat) : Int) := by rw [and3]; omega
  generalize h / 16384 % 4 = M3 at *
  by_cases q1 : hv < 44
  · have R := Hno.out (by
      rcases nb with _ | _
      · rfl
      · have e1 := (Hhv.out rfl).1
        have e2 := (Hhv.out rfl).2
        rw [Hst.out, decide_eq_false (by omega)]; rfl)
    clear Hyes Hno Hst Hhv Hnv
    go_wp2
    exact bodyPost_ret (results_row_tmp (p := 14) (u := 15) (ty := 50) rfl _ _ (w.heap.size + 1) 50 _ (0, 0) _ rfl (HS5.out _ _ _ _ _) Try.underlying50 rfl (by kernel_rfl)) rfl R
  by_cases q2 : bw = 1
  · have q2' : (bw == 1) = true := by simpa using q2
    have R := Hyes.out (by
      rcases nb with _ | _
      · rfl
      · have e1 := (Hhv.out rfl).1
        have e2 := (Hhv.out rfl).2
        rw [Hst.out, decide_eq_true (by omega)]; rfl)
    clear Hyes Hno Hst Hhv Hnv
    go_wp2
    exact bodyPost_ret (results_row_tmp (p := 14) (u := 15) (ty := 50) rfl _ _ (w.heap.size + 1) 50 _ (0, 0) _ rfl (HS5.out _ _ _ _ _) Try.underlying50 rfl (by kernel_rfl)) rfl R
  have q2' : (bw == 1) = false := by simpa using q2
  by_cases q3 : bw = 0
  case neg =>
    have q3' : (bw == 0) = false := by simpa using q3
    have R := Hno.out (by
      rcases nb with _ | _
      · rfl
      · have e1 := (Hhv.out rfl).1
        have e2 := (Hhv.out rfl).2
        rw [Hst.out, decide_eq_false (by omega)]; rfl)
    clear Hyes Hno Hst Hhv Hnv
    go_wp2
    exact bodyPost_ret (results_row_tmp (p := 14) (u := 15) (ty := 50) rfl _ _ (w.heap.size + 1) 50 _ (0, 0) _ rfl (HS5.out _ _ _ _ _) Try.underlying50 rfl (by kernel_rfl)) rfl R
  have q3' : (bw == 0) = true := by simpa using q3
  by_cases q4 : M3 = 0
  case neg =>
    have q4' : ((M3 : Int) == 0) = false := by simp; omega
    have R := Hno.out (by
      rcases nb with _ | _
      · rfl
      · have e1 := (Hhv.out rfl).1
        have e2 := (Hhv.out rfl).2
        rw [Hst.out, decide_eq_false (by omega)]; rfl)
    clear Hyes Hno Hst Hhv Hnv
    go_wp2
    exact bodyPost_ret (results_row_tmp (p := 14) (u := 15) (ty := 50) rfl _ _ (w.heap.size + 1) 50 _ (0, 0) _ rfl (HS5.out _ _ _ _ _) Try.underlying50 rfl (by kernel_rfl)) rfl R
  have q4' : ((M3 : Int) == 0) = true := by simp; omega
  have R := Hyes.out (by
    rcases nb with _ | _
    · rfl
    · have e1 := (Hhv.out rfl).1
      have e2 := (Hhv.out rfl).2
      rw [Hst.out, decide_eq_true (by omega)]; rfl)
  clear Hyes Hno Hst Hhv Hnv
  go_wp2
  exact bodyPost_ret (results_row_tmp (p := 14) (u := 15) (ty := 50) rfl _ _ (w.heap.size + 1) 50 _ (0, 0) _ rfl (HS5.out _ _ _ _ _) Try.underlying50 rfl (by kernel_rfl)) rfl R
end
section
open C Go.RowKit

theorem info50 : (Try.prog.info? 50).map (fun i => (i.zero, i.size, i.bytes)) = some (some (.agg #[.int .i64 0, .int .i64 0, .int .i64 0, .int .i64 0, .int .i64 0]), 5, 40) := by kernel_rfl
theorem cell_five_new (W : World) (T : TypeId) (a b c d e : Value) : ∀ (j : Nat) (y : Value), [a, b, c, d, e][j]? = some y → (W.alloc (.cells #[a, b, c, d, e] T)).cell? (Addr.add ⟨W.heap.size, 0, none⟩ j) = some y := by
  intro j y h
  have e' := cell_of_row (W.alloc (.cells #[a, b, c, d, e] T)) W.heap.size j _ T (0, 0) (heap_alloc_new W _)
  match j with
  | 0 => simpa [Addr.add] using e'.trans h
  | 1 => simpa [Addr.add] using e'.trans h
  | 2 => simpa [Addr.add] using e'.trans h
  | 3 => simpa [Addr.add] using e'.trans h
  | 4 => simpa [Addr.add] using e'.trans h
  | j + 5 => simp at h
def rowV (t : Thing) : List Value := [.int .i64 (t.s : Int), .int .i64 t.x, .int .i64 t.z, .int .i64 t.h, .int .i64 t.l]
/-- Features as a row. -/
def flatT (l : List Thing) : List Value := l.flatMap rowV
theorem flatT_snoc (l : List Thing) (t : Thing) : flatT (l ++ [t]) = flatT l ++ rowV t := by simp [flatT]
theorem flatT_get : ∀ (l : List Thing) (k : Nat) (t : Thing), l[k]? = some t → ∀ j, j < 5 → (flatT l)[k * 5 + j]? = (rowV t)[j]?
  | [], k, p, h => by simp at h
  | q :: l, 0, p, h => fun j hj => by
    simp at h
    subst h
    have e : flatT (q :: l) = rowV q ++ flatT l := by simp [flatT]
    rw [e, Nat.zero_mul, Nat.zero_add, List.getElem?_append_left (by simpa [rowV] using hj)]
  | q :: l, k + 1, p, h => fun j hj => by
    have := flatT_get l k p (by simpa using h) j hj
    have e : flatT (q :: l) = rowV q ++ flatT l := by simp [flatT]
    rw [e, List.getElem?_append_right (by simp [rowV]; omega), show (k + 1) * 5 + j - (rowV q).length = k * 5 + j by simp [rowV]; omega]
    exact this
/-- A row of features of one's own, in a slice. -/
def OwnT (w : World) (B : Nat) (v : Value) (l : List Thing) : Prop := ∃ a c, v = .slice a l.length c ∧ w.ownsRow B 50 5 v l.length (flatT l)
theorem OwnT.on {w w' : World} {B : Nat} {v : Value} {l : List Thing} (h : OwnT w B v l) (hb : Below w.heap.size w w') : OwnT w' B v l := by
  obtain ⟨a, c, e, hr⟩ := h
  exact ⟨a, c, e, ownsRow_on hr hb⟩
/-- One feature more at the end. -/
theorem wpList_append_thing {w : World} {ops : Array Oper} {rest : List Oper} {o : Oper} {a : Act} {Q : Exit → Act → World → Prop} (hgd : o.guard = none) (s x : Operand) (ho : o.op = .call { callee := .builtin .append, args := #[s, x], argTypes := #[47, 47] })
    (B : Nat) (v : Value) (l : List Thing) (t : Thing) (hs : a.eval s = v) (hown : OwnT w B v l) (g : Nat) (hx : a.eval x = .slice (some ⟨g, 0, none⟩) 1 1) (hg : g = w.heap.size) (hle : l.length ≤ 100000) (hB : B ≤ w.heap.size)
    (h : ∀ v' w', OwnT w' B v' (l ++ [t]) → Below B w w' → wpList Try.prog ops Q rest (a.put o.dst v') w') : wpList Try.prog ops Q (o :: rest) a (w.alloc (.cells #[.int .i64 (t.s : Int), .int .i64 t.x, .int .i64 t.z, .int .i64 t.h, .int .i64 t.l] 50)) := by
  obtain ⟨i, hi, hz0, hz1, hz2⟩ := info_parts info50
  subst hg
  obtain ⟨av, cv, rfl, hr⟩ := hown
  have hr2 := ownsRow_on hr ((Below.refl w.heap.size w).alloc (Nat.le_refl _) (.cells #[.int .i64 (t.s : Int), .int .i64 t.x, .int .i64 t.z, .int .i64 t.h, .int .i64 t.l] 50))
  refine wpList_append_own_at _ hgd s x 47 ho B 50 i _ 5 40 Try.underlying47 hi hz0 hz1 hz2 rfl (by decide) _ _ _ hs hr2 ⟨w.heap.size, 0, none⟩ 1 1 (rowV t) hx rfl (cell_five_new w 50 _ _ _ _ _) (by simp [rowV, Value.oneCell']) (by unfold maxLen; omega) (by omega) (by simp; omega) ?_
  intro v' w' h1 h2 _ _
  have e : ∃ a' c', v' = .slice a' (l ++ [t]).length c' := by
    rw [List.length_append, List.length_singleton]
    rcases h1.2 with ⟨hv, hn⟩ | ⟨g, cap, _, hv, _⟩
    · omega
    · exact ⟨_, _, hv⟩
  obtain ⟨a', c', rfl⟩ := e
  refine h _ w' ⟨a', c', rfl, ?_⟩ ?_
  · rw [flatT_snoc, List.length_append, List.length_singleton] at *
    exact h1
  · refine ((Below.refl B w).alloc hB _).grown h2 (by simp; omega) fun j ej => ?_
    rcases hr.2 with ⟨hv, _⟩ | ⟨g, cap, cur, hv, hbg, _⟩
    · rw [hv] at ej
      simp [Value.ownBlock] at ej
    · rw [hv] at ej
      obtain rfl : g = j := by simpa [Value.ownBlock] using ej
      exact hbg
/-! ### how many origins -/
theorem many_le (s : Nat) (c : Int) : many s c ≤ 4 ∧ ((many s c : Nat) : Int) = (c * 16 + 17) / side s - lo s c + 1 := by
  unfold many lo
  rcases side_cases s with e | e | e <;> rw [e] <;> omega
def preT (S : Nat) (cx cz : Int) (hs bs : List (List Int)) : Nat → List Thing
  | 0 => []
  | s + 1 => preT S cx cz hs bs s ++ sortT S cx cz hs bs s
theorem pre3 (S : Nat) (cx cz : Int) (hs bs : List (List Int)) : preT S cx cz hs bs 3 = things S cx cz hs bs := by
  show (([] ++ sortT S cx cz hs bs 0) ++ sortT S cx cz hs bs 1) ++ sortT S cx cz hs bs 2 = _
  rw [List.nil_append]
  rfl
/-- What Things answers. -/
def RhSay (S : Nat) (cx cz : Int) (hs bs : List (List Int)) (w : World) (e : Ending) (w' : World) : Prop :=
  Below w.heap.size w w' ∧ (things S cx cz hs bs).length ≤ 300 ∧ ∃ v, e = .returned v ∧ OwnT w' w.heap.size v (things S cx cz hs bs)
theorem OwnT.base {w : World} {B B' : Nat} {v : Value} {l : List Thing} (h : OwnT w B v l) (hb : B' ≤ B) : OwnT w B' v l := by
  obtain ⟨a, c, e, hr⟩ := h
  refine ⟨a, c, e, hr.1, ?_⟩
  rcases hr.2 with h0 | ⟨g, cap, cur, hv, hbg, hr⟩
  · exact .inl h0
  · exact .inr ⟨g, cap, cur, hv, Nat.le_trans hb hbg, hr⟩
set_option maxRecDepth 100000 in
set_option maxHeartbeats 8000000 in
theorem rthings_c (S : Nat) (cx cz : Int) (a a' : Option Addr) (c c' : Nat) (hs bs : List (List Int)) (w : World) (hS : S < 18446744073709551616) (hcx : -1073741825 ≤ cx ∧ cx ≤ 1073741825) (hcz : -1073741825 ≤ cz ∧ cz ≤ 1073741825)
    (hH : Rows2 w a hs) (hB : Rows2 w a' bs) (oH : okG 128 hs) (oB : okG 4 bs) :
    Calls Try.prog 17 #[.int .u64 S, .agg #[.int .i64 cx, .int .i64 cz], .slice a 9 c, .slice a' 9 c'] w (RhSay S cx cz hs bs w) := by
  obtain ⟨Post, hPost⟩ : ∃ Post : Ending → World → Prop, Post = RhSay S cx cz hs bs w := ⟨_, rfl⟩
  rw [← hPost]
  have HP : Hid (∀ e w', RhSay S cx cz hs bs w e w' → Post e w') := fun e w' h => by rw [hPost]; exact h
  clear hPost
  have HHs : Hid (Rows2 w a hs ∧ okG 128 hs) := ⟨hH, oH⟩
  have HBs : Hid (Rows2 w a' bs ∧ okG 4 bs) := ⟨hB, oB⟩
  have HB0 : Hid (Below w.heap.size w ((w.alloc (.cells #[.int .i64 cx, .int .i64 cz] 31)).alloc (.cells #[.int .i64 32, .int .i64 16, .int .i64 8] 81))) := below_two w _ _
  have HX0 : Hid (((w.alloc (.cells #[.int .i64 cx, .int .i64 cz] 31)).alloc (.cells #[.int .i64 32, .int .i64 16, .int .i64 8] 81)).heap[w.heap.size]? = some (.cells #[.int .i64 cx, .int .i64 cz] 31 (0, 0))) := (heap_alloc_old _ _ (by simp)).trans (heap_alloc_new w _)
  have HA0 : Hid (((w.alloc (.cells #[.int .i64 cx, .int .i64 cz] 31)).alloc (.cells #[.int .i64 32, .int .i64 16, .int .i64 8] 81)).heap[w.heap.size + 1]? = some (.cells #[.int .i64 32, .int .i64 16, .int .i64 8] 81 (0, 0))) := new_two w _ _
  clear hH hB oH oB
  obtain ⟨cx0, cx1⟩ := hcx
  obtain ⟨cz0, cz1⟩ := hcz
  go_enter Try.func17, Try.ntmps17
  go_wp2
  generalize (w.alloc (.cells #[.int .i64 cx, .int .i64 cz] 31)).alloc (.cells #[.int .i64 32, .int .i64 16, .int .i64 8] 81) = W0 at *
  go_loopw [9, 11] (fun vl vs wr => ∃ s : Nat, s ≤ 3 ∧ vs = .int .i64 (s : Int) ∧ Hid (OwnT wr W0.heap.size vl (preT S cx cz hs bs s) ∧ (preT S cx cz hs bs s).length ≤ 100 * s) ∧ Hid (Below W0.heap.size W0 wr)) (fun _ vs _ => 3 - (intOf vs).toNat)
  case atStart => exact ⟨0, by omega, rfl, ⟨⟨none, 0, rfl, World.ownsRow_nil _ _ _ _⟩, Nat.le_refl _⟩, Below.refl _ _⟩
  case round =>
    obtain ⟨s, hs3, rfl, HL, HB⟩ := hrel
    rcases s with _ | _ | _ | s
    · obtain ⟨P, hP⟩ : ∃ P, preT S cx cz hs bs 0 = P := ⟨_, rfl⟩
      have HPre : Hid (preT S cx cz hs bs 1 = P ++ rowT (fun oz => rowT (fun ox => (thingN S 0 cx cz hs bs ox oz).toList) (lo 0 cx) (many 0 cx)) (lo 0 cz) (many 0 cz)) := by show preT S cx cz hs bs 0 ++ sortT S cx cz hs bs 0 = _; rw [hP]; rfl
      have HLP : Hid (OwnT wr W0.heap.size u9 P ∧ P.length ≤ 0) := by show OwnT _ _ _ _ ∧ _; rw [← hP]; exact HL.out
      clear HL hP
      obtain ⟨lz, hlz⟩ : ∃ l, lo 0 cz = l := ⟨_, rfl⟩
      obtain ⟨lx, hlx⟩ : ∃ l, lo 0 cx = l := ⟨_, rfl⟩
      obtain ⟨nz, hnz⟩ : ∃ n, many 0 cz = n := ⟨_, rfl⟩
      obtain ⟨nx, hnx⟩ : ∃ n, many 0 cx = n := ⟨_, rfl⟩
      rw [hlz, hlx, hnz, hnx] at HPre
      have d1 : (cz * 16 - 2) / 32 = lz := hlz
      have d3 : (cx * 16 - 2) / 32 = lx := hlx
      have m1 := many_le 0 cz
      have m2 := many_le 0 cx
      rw [hnz, hlz] at m1
      rw [hnx, hlx] at m2
      have Hdz : Hid (∀ w, Calls Try.prog 31 #[.int .i64 (cz * 16 - 2), .int .i64 32] w fun e w' => e = .returned (.int .i64 lz) ∧ w' = w) := fun w => by rw [← d1]; exact N.rdiv_hi _ 32 w (by decide) (by decide) (by omega) (by omega)
      have Hdx : Hid (∀ w, Calls Try.prog 31 #[.int .i64 (cx * 16 - 2), .int .i64 32] w fun e w' => e = .returned (.int .i64 lx) ∧ w' = w) := fun w => by rw [← d3]; exact N.rdiv_hi _ 32 w (by decide) (by decide) (by omega) (by omega)
      obtain ⟨ez, hez⟩ : ∃ e, (cz * 16 + 17) / 32 = e := ⟨_, rfl⟩
      obtain ⟨ex, hex⟩ : ∃ e, (cx * 16 + 17) / 32 = e := ⟨_, rfl⟩
      have Hez : Hid (∀ w, Calls Try.prog 31 #[.int .i64 (cz * 16 + 17), .int .i64 32] w fun e w' => e = .returned (.int .i64 ez) ∧ w' = w) := fun w => by rw [← hez]; exact N.rdiv_hi _ 32 w (by decide) (by decide) (by omega) (by omega)
      have Hex : Hid (∀ w, Calls Try.prog 31 #[.int .i64 (cx * 16 + 17), .int .i64 32] w fun e w' => e = .returned (.int .i64 ex) ∧ w' = w) := fun w => by rw [← hex]; exact N.rdiv_hi _ 32 w (by decide) (by decide) (by omega) (by omega)
      have hz2 : ((nz : Nat) : Int) = ez - lz + 1 := by rw [← hez]; exact m1.2
      have hx2 : ((nx : Nat) : Int) = ex - lx + 1 := by rw [← hex]; exact m2.2
      have hzb : -10000000000 ≤ lz ∧ lz ≤ 10000000000 := by omega
      have hxb : -10000000000 ≤ lx ∧ lx ≤ 10000000000 := by omega
      obtain ⟨hzb0, hzb1⟩ := hzb
      obtain ⟨hxb0, hxb1⟩ := hxb
      have nz4 := m1.1
      have nx4 := m2.1
      clear hlz hlx hnz hnx d1 d3 m1 m2 hez hex
      have c0 : wr.cell? ⟨w.heap.size + 1, 0, none⟩ = some (.int .i64 32) := (cell_of_row wr (w.heap.size + 1) 0 _ 81 (0, 0) ((HB.out.block _ (Array.getElem?_eq_some_iff.1 HA0.out).1).trans HA0.out)).trans rfl
      have k1 : wr.cell? ⟨w.heap.size, 1, none⟩ = some (.int .i64 cz) := (cell_of_row wr w.heap.size 1 _ 31 (0, 0) ((HB.out.block _ (Array.getElem?_eq_some_iff.1 HX0.out).1).trans HX0.out)).trans rfl
      go_wp2_with fail
      refine (Hdz.out _).mono ?_
      rintro _ w1 ⟨rfl, hw⟩
      replace hw := hw.symm
      subst hw
      clear c0 k1 Hdz
      obtain ⟨wq, hwq⟩ : ∃ wq, wq = wr := ⟨_, rfl⟩
      subst hwq
      go_wp2_with fail
      go_loopw [9, 13] (fun vl vz wr => ∃ i : Nat, i ≤ nz ∧ vz = .int .i64 (lz + (i : Int)) ∧ Hid (OwnT wr W0.heap.size vl (P ++ rowT (fun oz => rowT (fun ox => (thingN S 0 cx cz hs bs ox oz).toList) lx nx) lz i) ∧ (P ++ rowT (fun oz => rowT (fun ox => (thingN S 0 cx cz hs bs ox oz).toList) lx nx) lz i).length ≤ 0 + 10 * i) ∧ Hid (Below W0.heap.size W0 wr)) (fun _ vz _ => (lz + (nz : Int) - intOf vz).toNat)
      case atStart => exact ⟨0, by omega, by simp, ⟨by show OwnT _ _ _ (P ++ []); rw [List.append_nil]; exact HLP.out.1, by show (P ++ []).length ≤ _; rw [List.append_nil]; exact HLP.out.2⟩, HB⟩
      case round =>
        clear HLP HB
        obtain ⟨i, hi, rfl, HLi, HB⟩ := hrel
        have k1 : wr.cell? ⟨w.heap.size, 1, none⟩ = some (.int .i64 cz) := (cell_of_row wr w.heap.size 1 _ 31 (0, 0) ((HB.out.block _ (Array.getElem?_eq_some_iff.1 HX0.out).1).trans HX0.out)).trans rfl
        have k0 : wr.cell? ⟨w.heap.size, 0, none⟩ = some (.int .i64 cx) := (cell_of_row wr w.heap.size 0 _ 31 (0, 0) ((HB.out.block _ (Array.getElem?_eq_some_iff.1 HX0.out).1).trans HX0.out)).trans rfl
        go_wp2_with fail
        refine (Hez.out _).mono ?_
        rintro _ w1 ⟨rfl, hw⟩
        replace hw := hw.symm
        subst hw
        by_cases hlt : i < nz
        case neg =>
          have hge : ¬ lz + (i : Int) ≤ ez := by omega
          obtain rfl : i = nz := by omega
          have HL2 : Hid (OwnT wr W0.heap.size u9 (preT S cx cz hs bs 1) ∧ (preT S cx cz hs bs 1).length ≤ 100 * 1) := by
            show _ ∧ _
            rw [HPre.out]
            exact ⟨HLi.out.1, by have := HLi.out.2; omega⟩
          clear HLi HPre k0 k1 Hez Hex Hdx
          go_wp2
          exact ⟨⟨1, by omega, by simp, HL2, HB⟩, by simp [intOf]⟩
        have hle : lz + (i : Int) ≤ ez := by omega
        go_wp2_with fail
        refine (Hdx.out _).mono ?_
        rintro _ w1 ⟨rfl, hw⟩
        replace hw := hw.symm
        subst hw
        clear k0 k1
        obtain ⟨A, hA⟩ : ∃ A, P ++ rowT (fun oz => rowT (fun ox => (thingN S 0 cx cz hs bs ox oz).toList) lx nx) lz i = A := ⟨_, rfl⟩
        have HA1 : Hid (P ++ rowT (fun oz => rowT (fun ox => (thingN S 0 cx cz hs bs ox oz).toList) lx nx) lz (i + 1) = A ++ rowT (fun ox => (thingN S 0 cx cz hs bs ox (lz + (i : Int))).toList) lx nx) := by
          show P ++ (rowT _ lz i ++ _) = _
          rw [← List.append_assoc, hA]
        rw [hA] at HLi
        clear hA
        obtain ⟨wq, hwq⟩ : ∃ wq, wq = wr := ⟨_, rfl⟩
        subst hwq
        go_wp2_with fail
        go_loopw [9, 14] (fun vl vx wr => ∃ j : Nat, j ≤ nx ∧ vx = .int .i64 (lx + (j : Int)) ∧ Hid (OwnT wr W0.heap.size vl (A ++ rowT (fun ox => (thingN S 0 cx cz hs bs ox (lz + (i : Int))).toList) lx j) ∧ (A ++ rowT (fun ox => (thingN S 0 cx cz hs bs ox (lz + (i : Int))).toList) lx j).length ≤ 0 + 10 * i + j) ∧ Hid (Below W0.heap.size W0 wr)) (fun _ vx _ => (lx + (nx : Int) - intOf vx).toNat)
        case atStart => exact ⟨0, by omega, by simp, ⟨by show OwnT _ _ _ (A ++ []); rw [List.append_nil]; exact HLi.out.1, by show (A ++ []).length ≤ _; rw [List.append_nil]; exact HLi.out.2⟩, HB⟩
        case round =>
          clear HLi HB
          obtain ⟨j, hj, rfl, HLj, HB⟩ := hrel
          have k0 : wr.cell? ⟨w.heap.size, 0, none⟩ = some (.int .i64 cx) := (cell_of_row wr w.heap.size 0 _ 31 (0, 0) ((HB.out.block _ (Array.getElem?_eq_some_iff.1 HX0.out).1).trans HX0.out)).trans rfl
          have k1 : wr.cell? ⟨w.heap.size, 1, none⟩ = some (.int .i64 cz) := (cell_of_row wr w.heap.size 1 _ 31 (0, 0) ((HB.out.block _ (Array.getElem?_eq_some_iff.1 HX0.out).1).trans HX0.out)).trans rfl
          go_wp2_with fail
          refine (Hex.out _).mono ?_
          rintro _ w1 ⟨rfl, hw⟩
          replace hw := hw.symm
          subst hw
          by_cases hlj : j < nx
          case neg =>
            have hge : ¬ lx + (j : Int) ≤ ex := by omega
            obtain rfl : j = nx := by omega
            have HL2 : Hid (OwnT wr W0.heap.size u9 (P ++ rowT (fun oz => rowT (fun ox => (thingN S 0 cx cz hs bs ox oz).toList) lx j) lz (i + 1)) ∧ (P ++ rowT (fun oz => rowT (fun ox => (thingN S 0 cx cz hs bs ox oz).toList) lx j) lz (i + 1)).length ≤ 0 + 10 * (i + 1)) := by
              show _ ∧ _
              rw [HA1.out]
              exact ⟨HLj.out.1, by have := HLj.out.2; omega⟩
            clear HLj HPre HA1 k0 k1 Hez Hex Hdx
            go_wp2
            exact ⟨⟨i + 1, by omega, by simp; omega, HL2, HB⟩, by simp [intOf]; omega⟩
          have hlj' : lx + (j : Int) ≤ ex := by omega
          have HBw : Hid (Below w.heap.size w wr) := HB0.out.trans (HB.out.mono HB0.out.size)
          have hth := rthing0_c S cx cz (lx + (j : Int)) (lz + (i : Int)) a a' c c' hs bs wr hS (by omega) (by omega) (by omega) (by omega) (HHs.out.1.on HBw.out) (HBs.out.1.on HBw.out) HHs.out.2 HBs.out.2
          have HRow : Hid (A ++ rowT (fun ox => (thingN S 0 cx cz hs bs ox (lz + (i : Int))).toList) lx (j + 1) = (A ++ rowT (fun ox => (thingN S 0 cx cz hs bs ox (lz + (i : Int))).toList) lx j) ++ (thingN S 0 cx cz hs bs (lx + (j : Int)) (lz + (i : Int))).toList) := by show A ++ (rowT _ lx j ++ _) = _; rw [← List.append_assoc]
          obtain ⟨D, hD⟩ : ∃ D, A ++ rowT (fun ox => (thingN S 0 cx cz hs bs ox (lz + (i : Int))).toList) lx j = D := ⟨_, rfl⟩
          rw [hD] at HLj HRow
          clear hD
          obtain ⟨o, ho⟩ : ∃ o, thingN S 0 cx cz hs bs (lx + (j : Int)) (lz + (i : Int)) = o := ⟨_, rfl⟩
          rw [ho] at hth HRow
          clear ho
          go_wp2_with fail
          refine hth.mono ?_
          clear hth k0 k1
          rintro _ w2 hsay
          obtain ⟨hb2, v0, v1, v2, v3, v4, rfl, hsm⟩ := hsay
          have HB2 : Hid (Below W0.heap.size W0 w2) := HB.out.trans (hb2.mono HB.out.size)
          have HL2 : Hid (OwnT w2 W0.heap.size u9 D ∧ D.length ≤ 0 + 10 * i + j) := ⟨HLj.out.1.on hb2, HLj.out.2⟩
          clear hb2 HB HLj HBw
          rcases o with _ | t
          · have HL3 : Hid (OwnT (w2.alloc (.cells #[.int .i64 v0, .int .i64 v1, .int .i64 v2, .int .i64 v3, .int .i64 v4] 50)) W0.heap.size u9 (A ++ rowT (fun ox => (thingN S 0 cx cz hs bs ox (lz + (i : Int))).toList) lx (j + 1)) ∧ (A ++ rowT (fun ox => (thingN S 0 cx cz hs bs ox (lz + (i : Int))).toList) lx (j + 1)).length ≤ 0 + 10 * i + (j + 1)) := by
              show _ ∧ _
              rw [HRow.out]
              show OwnT _ _ _ (D ++ []) ∧ (D ++ []).length ≤ _
              rw [List.append_nil]
              exact ⟨HL2.out.1.on ((Below.refl _ _).alloc (Nat.le_refl _) _), by have := HL2.out.2; omega⟩
            have HB3 : Hid (Below W0.heap.size W0 (w2.alloc (.cells #[.int .i64 v0, .int .i64 v1, .int .i64 v2, .int .i64 v3, .int .i64 v4] 50))) := HB2.out.alloc HB2.out.size _
            clear hsm HL2 HB2 HRow HPre HA1
            go_wp2
            exact ⟨⟨j + 1, by omega, by simp; omega, HL3, HB3⟩, by simp [intOf]; omega⟩
          · obtain ⟨rfl, rfl, rfl, rfl, rfl⟩ := hsm t rfl
            clear hsm
            have HL3 : Hid (OwnT (w2.alloc (.cells #[.int .i64 (t.s : Int), .int .i64 t.x, .int .i64 t.z, .int .i64 t.h, .int .i64 t.l] 50)) W0.heap.size u9 D) := HL2.out.1.on ((Below.refl _ _).alloc (Nat.le_refl _) _)
            have HB3 : Hid (Below W0.heap.size W0 (w2.alloc (.cells #[.int .i64 (t.s : Int), .int .i64 t.x, .int .i64 t.z, .int .i64 t.h, .int .i64 t.l] 50))) := HB2.out.alloc HB2.out.size _
            have HR2 : Hid (A ++ rowT (fun ox => (thingN S 0 cx cz hs bs ox (lz + (i : Int))).toList) lx (j + 1) = D ++ [t]) := HRow.out
            have hDl : D.length ≤ 100000 := by have := HL2.out.2; omega
            clear HRow HPre HA1
            go_wp2_with (at_builtin; refine wpList_append_thing rfl _ _ rfl W0.heap.size u9 D t rfl HL3.out _ rfl (by simp) hDl HB3.out.size ?_; intro v' w3 hO3 hb3)
            have HL4 : Hid (OwnT w3 W0.heap.size v' (A ++ rowT (fun ox => (thingN S 0 cx cz hs bs ox (lz + (i : Int))).toList) lx (j + 1)) ∧ (A ++ rowT (fun ox => (thingN S 0 cx cz hs bs ox (lz + (i : Int))).toList) lx (j + 1)).length ≤ 0 + 10 * i + (j + 1)) := by
              show _ ∧ _
              rw [HR2.out]
              exact ⟨hO3, by rw [List.length_append, List.length_singleton]; have := HL2.out.2; omega⟩
            have HB4 : Hid (Below W0.heap.size W0 w3) := HB3.out.trans hb3
            exact ⟨⟨j + 1, by omega, by simp; omega, HL4, HB4⟩, by simp [intOf]; omega⟩
    · obtain ⟨P, hP⟩ : ∃ P, preT S cx cz hs bs 1 = P := ⟨_, rfl⟩
      have HPre : Hid (preT S cx cz hs bs 2 = P ++ rowT (fun oz => rowT (fun ox => (thingN S 1 cx cz hs bs ox oz).toList) (lo 1 cx) (many 1 cx)) (lo 1 cz) (many 1 cz)) := by show preT S cx cz hs bs 1 ++ sortT S cx cz hs bs 1 = _; rw [hP]; rfl
      have HLP : Hid (OwnT wr W0.heap.size u9 P ∧ P.length ≤ 100) := by show OwnT _ _ _ _ ∧ _; rw [← hP]; exact HL.out
      clear HL hP
      obtain ⟨lz, hlz⟩ : ∃ l, lo 1 cz = l := ⟨_, rfl⟩
      obtain ⟨lx, hlx⟩ : ∃ l, lo 1 cx = l := ⟨_, rfl⟩
      obtain ⟨nz, hnz⟩ : ∃ n, many 1 cz = n := ⟨_, rfl⟩
      obtain ⟨nx, hnx⟩ : ∃ n, many 1 cx = n := ⟨_, rfl⟩
      rw [hlz, hlx, hnz, hnx] at HPre
      have d1 : (cz * 16 - 2) / 16 = lz := hlz
      have d3 : (cx * 16 - 2) / 16 = lx := hlx
      have m1 := many_le 1 cz
      have m2 := many_le 1 cx
      rw [hnz, hlz] at m1
      rw [hnx, hlx] at m2
      have Hdz : Hid (∀ w, Calls Try.prog 31 #[.int .i64 (cz * 16 - 2), .int .i64 16] w fun e w' => e = .returned (.int .i64 lz) ∧ w' = w) := fun w => by rw [← d1]; exact N.rdiv_hi _ 16 w (by decide) (by decide) (by omega) (by omega)
      have Hdx : Hid (∀ w, Calls Try.prog 31 #[.int .i64 (cx * 16 - 2), .int .i64 16] w fun e w' => e = .returned (.int .i64 lx) ∧ w' = w) := fun w => by rw [← d3]; exact N.rdiv_hi _ 16 w (by decide) (by decide) (by omega) (by omega)
      obtain ⟨ez, hez⟩ : ∃ e, (cz * 16 + 17) / 16 = e := ⟨_, rfl⟩
      obtain ⟨ex, hex⟩ : ∃ e, (cx * 16 + 17) / 16 = e := ⟨_, rfl⟩
      have Hez : Hid (∀ w, Calls Try.prog 31 #[.int .i64 (cz * 16 + 17), .int .i64 16] w fun e w' => e = .returned (.int .i64 ez) ∧ w' = w) := fun w => by rw [← hez]; exact N.rdiv_hi _ 16 w (by decide) (by decide) (by omega) (by omega)
      have Hex : Hid (∀ w, Calls Try.prog 31 #[.int .i64 (cx * 16 + 17), .int .i64 16] w fun e w' => e = .returned (.int .i64 ex) ∧ w' = w) := fun w => by rw [← hex]; exact N.rdiv_hi _ 16 w (by decide) (by decide) (by omega) (by omega)
      have hz2 : ((nz : Nat) : Int) = ez - lz + 1 := by rw [← hez]; exact m1.2
      have hx2 : ((nx : Nat) : Int) = ex - lx + 1 := by rw [← hex]; exact m2.2
      have hzb : -10000000000 ≤ lz ∧ lz ≤ 10000000000 := by omega
      have hxb : -10000000000 ≤ lx ∧ lx ≤ 10000000000 := by omega
      obtain ⟨hzb0, hzb1⟩ := hzb
      obtain ⟨hxb0, hxb1⟩ := hxb
      have nz4 := m1.1
      have nx4 := m2.1
      clear hlz hlx hnz hnx d1 d3 m1 m2 hez hex
      have c0 : wr.cell? ⟨w.heap.size + 1, 1, none⟩ = some (.int .i64 16) := (cell_of_row wr (w.heap.size + 1) 1 _ 81 (0, 0) ((HB.out.block _ (Array.getElem?_eq_some_iff.1 HA0.out).1).trans HA0.out)).trans rfl
      have k1 : wr.cell? ⟨w.heap.size, 1, none⟩ = some (.int .i64 cz) := (cell_of_row wr w.heap.size 1 _ 31 (0, 0) ((HB.out.block _ (Array.getElem?_eq_some_iff.1 HX0.out).1).trans HX0.out)).trans rfl
      go_wp2_with fail
      refine (Hdz.out _).mono ?_
      rintro _ w1 ⟨rfl, hw⟩
      replace hw := hw.symm
      subst hw
      clear c0 k1 Hdz
      obtain ⟨wq, hwq⟩ : ∃ wq, wq = wr := ⟨_, rfl⟩
      subst hwq
      go_wp2_with fail
      go_loopw [9, 13] (fun vl vz wr => ∃ i : Nat, i ≤ nz ∧ vz = .int .i64 (lz + (i : Int)) ∧ Hid (OwnT wr W0.heap.size vl (P ++ rowT (fun oz => rowT (fun ox => (thingN S 1 cx cz hs bs ox oz).toList) lx nx) lz i) ∧ (P ++ rowT (fun oz => rowT (fun ox => (thingN S 1 cx cz hs bs ox oz).toList) lx nx) lz i).length ≤ 100 + 10 * i) ∧ Hid (Below W0.heap.size W0 wr)) (fun _ vz _ => (lz + (nz : Int) - intOf vz).toNat)
      case atStart => exact ⟨0, by omega, by simp, ⟨by show OwnT _ _ _ (P ++ []); rw [List.append_nil]; exact HLP.out.1, by show (P ++ []).length ≤ _; rw [List.append_nil]; exact HLP.out.2⟩, HB⟩
      case round =>
        clear HLP HB
        obtain ⟨i, hi, rfl, HLi, HB⟩ := hrel
        have k1 : wr.cell? ⟨w.heap.size, 1, none⟩ = some (.int .i64 cz) := (cell_of_row wr w.heap.size 1 _ 31 (0, 0) ((HB.out.block _ (Array.getElem?_eq_some_iff.1 HX0.out).1).trans HX0.out)).trans rfl
        have k0 : wr.cell? ⟨w.heap.size, 0, none⟩ = some (.int .i64 cx) := (cell_of_row wr w.heap.size 0 _ 31 (0, 0) ((HB.out.block _ (Array.getElem?_eq_some_iff.1 HX0.out).1).trans HX0.out)).trans rfl
        go_wp2_with fail
        refine (Hez.out _).mono ?_
        rintro _ w1 ⟨rfl, hw⟩
        replace hw := hw.symm
        subst hw
        by_cases hlt : i < nz
        case neg =>
          have hge : ¬ lz + (i : Int) ≤ ez := by omega
          obtain rfl : i = nz := by omega
          have HL2 : Hid (OwnT wr W0.heap.size u9 (preT S cx cz hs bs 2) ∧ (preT S cx cz hs bs 2).length ≤ 100 * 2) := by
            show _ ∧ _
            rw [HPre.out]
            exact ⟨HLi.out.1, by have := HLi.out.2; omega⟩
          clear HLi HPre k0 k1 Hez Hex Hdx
          go_wp2
          exact ⟨⟨2, by omega, by simp, HL2, HB⟩, by simp [intOf]⟩
        have hle : lz + (i : Int) ≤ ez := by omega
        go_wp2_with fail
        refine (Hdx.out _).mono ?_
        rintro _ w1 ⟨rfl, hw⟩
        replace hw := hw.symm
        subst hw
        clear k0 k1
        obtain ⟨A, hA⟩ : ∃ A, P ++ rowT (fun oz => rowT (fun ox => (thingN S 1 cx cz hs bs ox oz).toList) lx nx) lz i = A := ⟨_, rfl⟩
        have HA1 : Hid (P ++ rowT (fun oz => rowT (fun ox => (thingN S 1 cx cz hs bs ox oz).toList) lx nx) lz (i + 1) = A ++ rowT (fun ox => (thingN S 1 cx cz hs bs ox (lz + (i : Int))).toList) lx nx) := by
          show P ++ (rowT _ lz i ++ _) = _
          rw [← List.append_assoc, hA]
        rw [hA] at HLi
        clear hA
        obtain ⟨wq, hwq⟩ : ∃ wq, wq = wr := ⟨_, rfl⟩
        subst hwq
        go_wp2_with fail
        go_loopw [9, 14] (fun vl vx wr => ∃ j : Nat, j ≤ nx ∧ vx = .int .i64 (lx + (j : Int)) ∧ Hid (OwnT wr W0.heap.size vl (A ++ rowT (fun ox => (thingN S 1 cx cz hs bs ox (lz + (i : Int))).toList) lx j) ∧ (A ++ rowT (fun ox => (thingN S 1 cx cz hs bs ox (lz + (i : Int))).toList) lx j).length ≤ 100 + 10 * i + j) ∧ Hid (Below W0.heap.size W0 wr)) (fun _ vx _ => (lx + (nx : Int) - intOf vx).toNat)
        case atStart => exact ⟨0, by omega, by simp, ⟨by show OwnT _ _ _ (A ++ []); rw [List.append_nil]; exact HLi.out.1, by show (A ++ []).length ≤ _; rw [List.append_nil]; exact HLi.out.2⟩, HB⟩
        case round =>
          clear HLi HB
          obtain ⟨j, hj, rfl, HLj, HB⟩ := hrel
          have k0 : wr.cell? ⟨w.heap.size, 0, none⟩ = some (.int .i64 cx) := (cell_of_row wr w.heap.size 0 _ 31 (0, 0) ((HB.out.block _ (Array.getElem?_eq_some_iff.1 HX0.out).1).trans HX0.out)).trans rfl
          have k1 : wr.cell? ⟨w.heap.size, 1, none⟩ = some (.int .i64 cz) := (cell_of_row wr w.heap.size 1 _ 31 (0, 0) ((HB.out.block _ (Array.getElem?_eq_some_iff.1 HX0.out).1).trans HX0.out)).trans rfl
          go_wp2_with fail
          refine (Hex.out _).mono ?_
          rintro _ w1 ⟨rfl, hw⟩
          replace hw := hw.symm
          subst hw
          by_cases hlj : j < nx
          case neg =>
            have hge : ¬ lx + (j : Int) ≤ ex := by omega
            obtain rfl : j = nx := by omega
            have HL2 : Hid (OwnT wr W0.heap.size u9 (P ++ rowT (fun oz => rowT (fun ox => (thingN S 1 cx cz hs bs ox oz).toList) lx j) lz (i + 1)) ∧ (P ++ rowT (fun oz => rowT (fun ox => (thingN S 1 cx cz hs bs ox oz).toList) lx j) lz (i + 1)).length ≤ 100 + 10 * (i + 1)) := by
              show _ ∧ _
              rw [HA1.out]
              exact ⟨HLj.out.1, by have := HLj.out.2; omega⟩
            clear HLj HPre HA1 k0 k1 Hez Hex Hdx
            go_wp2
            exact ⟨⟨i + 1, by omega, by simp; omega, HL2, HB⟩, by simp [intOf]; omega⟩
          have hlj' : lx + (j : Int) ≤ ex := by omega
          have HBw : Hid (Below w.heap.size w wr) := HB0.out.trans (HB.out.mono HB0.out.size)
          have hth := rthing1_c S cx cz (lx + (j : Int)) (lz + (i : Int)) a a' c c' hs bs wr hS (by omega) (by omega) (by omega) (by omega) (HHs.out.1.on HBw.out) (HBs.out.1.on HBw.out) HHs.out.2 HBs.out.2
          have HRow : Hid (A ++ rowT (fun ox => (thingN S 1 cx cz hs bs ox (lz + (i : Int))).toList) lx (j + 1) = (A ++ rowT (fun ox => (thingN S 1 cx cz hs bs ox (lz + (i : Int))).toList) lx j) ++ (thingN S 1 cx cz hs bs (lx + (j : Int)) (lz + (i : Int))).toList) := by show A ++ (rowT _ lx j ++ _) = _; rw [← List.append_assoc]
          obtain ⟨D, hD⟩ : ∃ D, A ++ rowT (fun ox => (thingN S 1 cx cz hs bs ox (lz + (i : Int))).toList) lx j = D := ⟨_, rfl⟩
          rw [hD] at HLj HRow
          clear hD
          obtain ⟨o, ho⟩ : ∃ o, thingN S 1 cx cz hs bs (lx + (j : Int)) (lz + (i : Int)) = o := ⟨_, rfl⟩
          rw [ho] at hth HRow
          clear ho
          go_wp2_with fail
          refine hth.mono ?_
          clear hth k0 k1
          rintro _ w2 hsay
          obtain ⟨hb2, v0, v1, v2, v3, v4, rfl, hsm⟩ := hsay
          have HB2 : Hid (Below W0.heap.size W0 w2) := HB.out.trans (hb2.mono HB.out.size)
          have HL2 : Hid (OwnT w2 W0.heap.size u9 D ∧ D.length ≤ 100 + 10 * i + j) := ⟨HLj.out.1.on hb2, HLj.out.2⟩
          clear hb2 HB HLj HBw
          rcases o with _ | t
          · have HL3 : Hid (OwnT (w2.alloc (.cells #[.int .i64 v0, .int .i64 v1, .int .i64 v2, .int .i64 v3, .int .i64 v4] 50)) W0.heap.size u9 (A ++ rowT (fun ox => (thingN S 1 cx cz hs bs ox (lz + (i : Int))).toList) lx (j + 1)) ∧ (A ++ rowT (fun ox => (thingN S 1 cx cz hs bs ox (lz + (i : Int))).toList) lx (j + 1)).length ≤ 100 + 10 * i + (j + 1)) := by
              show _ ∧ _
              rw [HRow.out]
              show OwnT _ _ _ (D ++ []) ∧ (D ++ []).length ≤ _
              rw [List.append_nil]
              exact ⟨HL2.out.1.on ((Below.refl _ _).alloc (Nat.le_refl _) _), by have := HL2.out.2; omega⟩
            have HB3 : Hid (Below W0.heap.size W0 (w2.alloc (.cells #[.int .i64 v0, .int .i64 v1, .int .i64 v2, .int .i64 v3, .int .i64 v4] 50))) := HB2.out.alloc HB2.out.size _
            clear hsm HL2 HB2 HRow HPre HA1
            go_wp2
            exact ⟨⟨j + 1, by omega, by simp; omega, HL3, HB3⟩, by simp [intOf]; omega⟩
          · obtain ⟨rfl, rfl, rfl, rfl, rfl⟩ := hsm t rfl
            clear hsm
            have HL3 : Hid (OwnT (w2.alloc (.cells #[.int .i64 (t.s : Int), .int .i64 t.x, .int .i64 t.z, .int .i64 t.h, .int .i64 t.l] 50)) W0.heap.size u9 D) := HL2.out.1.on ((Below.refl _ _).alloc (Nat.le_refl _) _)
            have HB3 : Hid (Below W0.heap.size W0 (w2.alloc (.cells #[.int .i64 (t.s : Int), .int .i64 t.x, .int .i64 t.z, .int .i64 t.h, .int .i64 t.l] 50))) := HB2.out.alloc HB2.out.size _
            have HR2 : Hid (A ++ rowT (fun ox => (thingN S 1 cx cz hs bs ox (lz + (i : Int))).toList) lx (j + 1) = D ++ [t]) := HRow.out
            have hDl : D.length ≤ 100000 := by have := HL2.out.2; omega
            clear HRow HPre HA1
            go_wp2_with (at_builtin; refine wpList_append_thing rfl _ _ rfl W0.heap.size u9 D t rfl HL3.out _ rfl (by simp) hDl HB3.out.size ?_; intro v' w3 hO3 hb3)
            have HL4 : Hid (OwnT w3 W0.heap.size v' (A ++ rowT (fun ox => (thingN S 1 cx cz hs bs ox (lz + (i : Int))).toList) lx (j + 1)) ∧ (A ++ rowT (fun ox => (thingN S 1 cx cz hs bs ox (lz + (i : Int))).toList) lx (j + 1)).length ≤ 100 + 10 * i + (j + 1)) := by
              show _ ∧ _
              rw [HR2.out]
              exact ⟨hO3, by rw [List.length_append, List.length_singleton]; have := HL2.out.2; omega⟩
            have HB4 : Hid (Below W0.heap.size W0 w3) := HB3.out.trans hb3
            exact ⟨⟨j + 1, by omega, by simp; omega, HL4, HB4⟩, by simp [intOf]; omega⟩
    · obtain ⟨P, hP⟩ : ∃ P, preT S cx cz hs bs 2 = P := ⟨_, rfl⟩
      have HPre : Hid (preT S cx cz hs bs 3 = P ++ rowT (fun oz => rowT (fun ox => (thingN S 2 cx cz hs bs ox oz).toList) (lo 2 cx) (many 2 cx)) (lo 2 cz) (many 2 cz)) := by show preT S cx cz hs bs 2 ++ sortT S cx cz hs bs 2 = _; rw [hP]; rfl
      have HLP : Hid (OwnT wr W0.heap.size u9 P ∧ P.length ≤ 200) := by show OwnT _ _ _ _ ∧ _; rw [← hP]; exact HL.out
      clear HL hP
      obtain ⟨lz, hlz⟩ : ∃ l, lo 2 cz = l := ⟨_, rfl⟩
      obtain ⟨lx, hlx⟩ : ∃ l, lo 2 cx = l := ⟨_, rfl⟩
      obtain ⟨nz, hnz⟩ : ∃ n, many 2 cz = n := ⟨_, rfl⟩
      obtain ⟨nx, hnx⟩ : ∃ n, many 2 cx = n := ⟨_, rfl⟩
      rw [hlz, hlx, hnz, hnx] at HPre
      have d1 : (cz * 16 - 2) / 8 = lz := hlz
      have d3 : (cx * 16 - 2) / 8 = lx := hlx
      have m1 := many_le 2 cz
      have m2 := many_le 2 cx
      rw [hnz, hlz] at m1
      rw [hnx, hlx] at m2
      have Hdz : Hid (∀ w, Calls Try.prog 31 #[.int .i64 (cz * 16 - 2), .int .i64 8] w fun e w' => e = .returned (.int .i64 lz) ∧ w' = w) := fun w => by rw [← d1]; exact N.rdiv_hi _ 8 w (by decide) (by decide) (by omega) (by omega)
      have Hdx : Hid (∀ w, Calls Try.prog 31 #[.int .i64 (cx * 16 - 2), .int .i64 8] w fun e w' => e = .returned (.int .i64 lx) ∧ w' = w) := fun w => by rw [← d3]; exact N.rdiv_hi _ 8 w (by decide) (by decide) (by omega) (by omega)
      obtain ⟨ez, hez⟩ : ∃ e, (cz * 16 + 17) / 8 = e := ⟨_, rfl⟩
      obtain ⟨ex, hex⟩ : ∃ e, (cx * 16 + 17) / 8 = e := ⟨_, rfl⟩
      have Hez : Hid (∀ w, Calls Try.prog 31 #[.int .i64 (cz * 16 + 17), .int .i64 8] w fun e w' => e = .returned (.int .i64 ez) ∧ w' = w) := fun w => by rw [← hez]; exact N.rdiv_hi _ 8 w (by decide) (by decide) (by omega) (by omega)
      have Hex : Hid (∀ w, Calls Try.prog 31 #[.int .i64 (cx * 16 + 17), .int .i64 8] w fun e w' => e = .returned (.int .i64 ex) ∧ w' = w) := fun w => by rw [← hex]; exact N.rdiv_hi _ 8 w (by decide) (by decide) (by omega) (by omega)
      have hz2 : ((nz : Nat) : Int) = ez - lz + 1 := by rw [← hez]; exact m1.2
      have hx2 : ((nx : Nat) : Int) = ex - lx + 1 := by rw [← hex]; exact m2.2
      have hzb : -10000000000 ≤ lz ∧ lz ≤ 10000000000 := by omega
      have hxb : -10000000000 ≤ lx ∧ lx ≤ 10000000000 := by omega
      obtain ⟨hzb0, hzb1⟩ := hzb
      obtain ⟨hxb0, hxb1⟩ := hxb
      have nz4 := m1.1
      have nx4 := m2.1
      clear hlz hlx hnz hnx d1 d3 m1 m2 hez hex
      have c0 : wr.cell? ⟨w.heap.size + 1, 2, none⟩ = some (.int .i64 8) := (cell_of_row wr (w.heap.size + 1) 2 _ 81 (0, 0) ((HB.out.block _ (Array.getElem?_eq_some_iff.1 HA0.out).1).trans HA0.out)).trans rfl
      have k1 : wr.cell? ⟨w.heap.size, 1, none⟩ = some (.int .i64 cz) := (cell_of_row wr w.heap.size 1 _ 31 (0, 0) ((HB.out.block _ (Array.getElem?_eq_some_iff.1 HX0.out).1).trans HX0.out)).trans rfl
      go_wp2_with fail
      refine (Hdz.out _).mono ?_
      rintro _ w1 ⟨rfl, hw⟩
      replace hw := hw.symm
      subst hw
      clear c0 k1 Hdz
      obtain ⟨wq, hwq⟩ : ∃ wq, wq = wr := ⟨_, rfl⟩
      subst hwq
      go_wp2_with fail
      go_loopw [9, 13] (fun vl vz wr => ∃ i : Nat, i ≤ nz ∧ vz = .int .i64 (lz + (i : Int)) ∧ Hid (OwnT wr W0.heap.size vl (P ++ rowT (fun oz => rowT (fun ox => (thingN S 2 cx cz hs bs ox oz).toList) lx nx) lz i) ∧ (P ++ rowT (fun oz => rowT (fun ox => (thingN S 2 cx cz hs bs ox oz).toList) lx nx) lz i).length ≤ 200 + 10 * i) ∧ Hid (Below W0.heap.size W0 wr)) (fun _ vz _ => (lz + (nz : Int) - intOf vz).toNat)
      case atStart => exact ⟨0, by omega, by simp, ⟨by show OwnT _ _ _ (P ++ []); rw [List.append_nil]; exact HLP.out.1, by show (P ++ []).length ≤ _; rw [List.append_nil]; exact HLP.out.2⟩, HB⟩
      case round =>
        clear HLP HB
        obtain ⟨i, hi, rfl, HLi, HB⟩ := hrel
        have k1 : wr.cell? ⟨w.heap.size, 1, none⟩ = some (.int .i64 cz) := (cell_of_row wr w.heap.size 1 _ 31 (0, 0) ((HB.out.block _ (Array.getElem?_eq_some_iff.1 HX0.out).1).trans HX0.out)).trans rfl
        have k0 : wr.cell? ⟨w.heap.size, 0, none⟩ = some (.int .i64 cx) := (cell_of_row wr w.heap.size 0 _ 31 (0, 0) ((HB.out.block _ (Array.getElem?_eq_some_iff.1 HX0.out).1).trans HX0.out)).trans rfl
        go_wp2_with fail
        refine (Hez.out _).mono ?_
        rintro _ w1 ⟨rfl, hw⟩
        replace hw := hw.symm
        subst hw
        by_cases hlt : i < nz
        case neg =>
          have hge : ¬ lz + (i : Int) ≤ ez := by omega
          obtain rfl : i = nz := by omega
          have HL2 : Hid (OwnT wr W0.heap.size u9 (preT S cx cz hs bs 3) ∧ (preT S cx cz hs bs 3).length ≤ 100 * 3) := by
            show _ ∧ _
            rw [HPre.out]
            exact ⟨HLi.out.1, by have := HLi.out.2; omega⟩
          clear HLi HPre k0 k1 Hez Hex Hdx
          go_wp2
          exact ⟨⟨3, by omega, by simp, HL2, HB⟩, by simp [intOf]⟩
        have hle : lz + (i : Int) ≤ ez := by omega
        go_wp2_with fail
        refine (Hdx.out _).mono ?_
        rintro _ w1 ⟨rfl, hw⟩
        replace hw := hw.symm
        subst hw
        clear k0 k1
        obtain ⟨A, hA⟩ : ∃ A, P ++ rowT (fun oz => rowT (fun ox => (thingN S 2 cx cz hs bs ox oz).toList) lx nx) lz i = A := ⟨_, rfl⟩
        have HA1 : Hid (P ++ rowT (fun oz => rowT (fun ox => (thingN S 2 cx cz hs bs ox oz).toList) lx nx) lz (i + 1) = A ++ rowT (fun ox => (thingN S 2 cx cz hs bs ox (lz + (i : Int))).toList) lx nx) := by
          show P ++ (rowT _ lz i ++ _) = _
          rw [← List.append_assoc, hA]
        rw [hA] at HLi
        clear hA
        obtain ⟨wq, hwq⟩ : ∃ wq, wq = wr := ⟨_, rfl⟩
        subst hwq
        go_wp2_with fail
        go_loopw [9, 14] (fun vl vx wr => ∃ j : Nat, j ≤ nx ∧ vx = .int .i64 (lx + (j : Int)) ∧ Hid (OwnT wr W0.heap.size vl (A ++ rowT (fun ox => (thingN S 2 cx cz hs bs ox (lz + (i : Int))).toList) lx j) ∧ (A ++ rowT (fun ox => (thingN S 2 cx cz hs bs ox (lz + (i : Int))).toList) lx j).length ≤ 200 + 10 * i + j) ∧ Hid (Below W0.heap.size W0 wr)) (fun _ vx _ => (lx + (nx : Int) - intOf vx).toNat)
        case atStart => exact ⟨0, by omega, by simp, ⟨by show OwnT _ _ _ (A ++ []); rw [List.append_nil]; exact HLi.out.1, by show (A ++ []).length ≤ _; rw [List.append_nil]; exact HLi.out.2⟩, HB⟩
        case round =>
          clear HLi HB
          obtain ⟨j, hj, rfl, HLj, HB⟩ := hrel
          have k0 : wr.cell? ⟨w.heap.size, 0, none⟩ = some (.int .i64 cx) := (cell_of_row wr w.heap.size 0 _ 31 (0, 0) ((HB.out.block _ (Array.getElem?_eq_some_iff.1 HX0.out).1).trans HX0.out)).trans rfl
          have k1 : wr.cell? ⟨w.heap.size, 1, none⟩ = some (.int .i64 cz) := (cell_of_row wr w.heap.size 1 _ 31 (0, 0) ((HB.out.block _ (Array.getElem?_eq_some_iff.1 HX0.out).1).trans HX0.out)).trans rfl
          go_wp2_with fail
          refine (Hex.out _).mono ?_
          rintro _ w1 ⟨rfl, hw⟩
          replace hw := hw.symm
          subst hw
          by_cases hlj : j < nx
          case neg =>
            have hge : ¬ lx + (j : Int) ≤ ex := by omega
            obtain rfl : j = nx := by omega
            have HL2 : Hid (OwnT wr W0.heap.size u9 (P ++ rowT (fun oz => rowT (fun ox => (thingN S 2 cx cz hs bs ox oz).toList) lx j) lz (i + 1)) ∧ (P ++ rowT (fun oz => rowT (fun ox => (thingN S 2 cx cz hs bs ox oz).toList) lx j) lz (i + 1)).length ≤ 200 + 10 * (i + 1)) := by
              show _ ∧ _
              rw [HA1.out]
              exact ⟨HLj.out.1, by have := HLj.out.2; omega⟩
            clear HLj HPre HA1 k0 k1 Hez Hex Hdx
            go_wp2
            exact ⟨⟨i + 1, by omega, by simp; omega, HL2, HB⟩, by simp [intOf]; omega⟩
          have hlj' : lx + (j : Int) ≤ ex := by omega
          have HBw : Hid (Below w.heap.size w wr) := HB0.out.trans (HB.out.mono HB0.out.size)
          have hth := rthing2_c S cx cz (lx + (j : Int)) (lz + (i : Int)) a a' c c' hs bs wr hS (by omega) (by omega) (by omega) (by omega) (HHs.out.1.on HBw.out) (HBs.out.1.on HBw.out) HHs.out.2 HBs.out.2
          have HRow : Hid (A ++ rowT (fun ox => (thingN S 2 cx cz hs bs ox (lz + (i : Int))).toList) lx (j + 1) = (A ++ rowT (fun ox => (thingN S 2 cx cz hs bs ox (lz + (i : Int))).toList) lx j) ++ (thingN S 2 cx cz hs bs (lx + (j : Int)) (lz + (i : Int))).toList) := by show A ++ (rowT _ lx j ++ _) = _; rw [← List.append_assoc]
          obtain ⟨D, hD⟩ : ∃ D, A ++ rowT (fun ox => (thingN S 2 cx cz hs bs ox (lz + (i : Int))).toList) lx j = D := ⟨_, rfl⟩
          rw [hD] at HLj HRow
          clear hD
          obtain ⟨o, ho⟩ : ∃ o, thingN S 2 cx cz hs bs (lx + (j : Int)) (lz + (i : Int)) = o := ⟨_, rfl⟩
          rw [ho] at hth HRow
          clear ho
          go_wp2_with fail
          refine hth.mono ?_
          clear hth k0 k1
          rintro _ w2 hsay
          obtain ⟨hb2, v0, v1, v2, v3, v4, rfl, hsm⟩ := hsay
          have HB2 : Hid (Below W0.heap.size W0 w2) := HB.out.trans (hb2.mono HB.out.size)
          have HL2 : Hid (OwnT w2 W0.heap.size u9 D ∧ D.length ≤ 200 + 10 * i + j) := ⟨HLj.out.1.on hb2, HLj.out.2⟩
          clear hb2 HB HLj HBw
          rcases o with _ | t
          · have HL3 : Hid (OwnT (w2.alloc (.cells #[.int .i64 v0, .int .i64 v1, .int .i64 v2, .int .i64 v3, .int .i64 v4] 50)) W0.heap.size u9 (A ++ rowT (fun ox => (thingN S 2 cx cz hs bs ox (lz + (i : Int))).toList) lx (j + 1)) ∧ (A ++ rowT (fun ox => (thingN S 2 cx cz hs bs ox (lz + (i : Int))).toList) lx (j + 1)).length ≤ 200 + 10 * i + (j + 1)) := by
              show _ ∧ _
              rw [HRow.out]
              show OwnT _ _ _ (D ++ []) ∧ (D ++ []).length ≤ _
              rw [List.append_nil]
              exact ⟨HL2.out.1.on ((Below.refl _ _).alloc (Nat.le_refl _) _), by have := HL2.out.2; omega⟩
            have HB3 : Hid (Below W0.heap.size W0 (w2.alloc (.cells #[.int .i64 v0, .int .i64 v1, .int .i64 v2, .int .i64 v3, .int .i64 v4] 50))) := HB2.out.alloc HB2.out.size _
            clear hsm HL2 HB2 HRow HPre HA1
            go_wp2
            exact ⟨⟨j + 1, by omega, by simp; omega, HL3, HB3⟩, by simp [intOf]; omega⟩
          · obtain ⟨rfl, rfl, rfl, rfl, rfl⟩ := hsm t rfl
            clear hsm
            have HL3 : Hid (OwnT (w2.alloc (.cells #[.int .i64 (t.s : Int), .int .i64 t.x, .int .i64 t.z, .int .i64 t.h, .int .i64 t.l] 50)) W0.heap.size u9 D) := HL2.out.1.on ((Below.refl _ _).alloc (Nat.le_refl _) _)
            have HB3 : Hid (Below W0.heap.size W0 (w2.alloc (.cells #[.int .i64 (t.s : Int), .int .i64 t.x, .int .i64 t.z, .int .i64 t.h, .int .i64 t.l] 50))) := HB2.out.alloc HB2.out.size _
            have HR2 : Hid (A ++ rowT (fun ox => (thingN S 2 cx cz hs bs ox (lz + (i : Int))).toList) lx (j + 1) = D ++ [t]) := HRow.out
            have hDl : D.length ≤ 100000 := by have := HL2.out.2; omega
            clear HRow HPre HA1
            go_wp2_with (at_builtin; refine wpList_append_thing rfl _ _ rfl W0.heap.size u9 D t rfl HL3.out _ rfl (by simp) hDl HB3.out.size ?_; intro v' w3 hO3 hb3)
            have HL4 : Hid (OwnT w3 W0.heap.size v' (A ++ rowT (fun ox => (thingN S 2 cx cz hs bs ox (lz + (i : Int))).toList) lx (j + 1)) ∧ (A ++ rowT (fun ox => (thingN S 2 cx cz hs bs ox (lz + (i : Int))).toList) lx (j + 1)).length ≤ 200 + 10 * i + (j + 1)) := by
              show _ ∧ _
              rw [HR2.out]
              exact ⟨hO3, by rw [List.length_append, List.length_singleton]; have := HL2.out.2; omega⟩
            have HB4 : Hid (Below W0.heap.size W0 w3) := HB3.out.trans hb3
            exact ⟨⟨j + 1, by omega, by simp; omega, HL4, HB4⟩, by simp [intOf]; omega⟩
    · obtain rfl : s = 0 := by omega
      have R := HP.out _ wr (show RhSay S cx cz hs bs w (.returned u9) wr from ⟨HB0.out.trans (HB.out.mono HB0.out.size), by rw [← pre3]; have := HL.out.2; omega, u9, rfl, by rw [← pre3]; exact HL.out.1.base HB0.out.size⟩)
      clear HP HL
      go_wp2
      exact R
end
section
open C Go.RowKit

/-! ### bytes at the beginning of a block -/
def Pre (w : World) (b : Nat) (t : TypeId) (cs : List Int) : Prop := ∃ cur, w.heap[b]? = some (.cells cur t (0, 0)) ∧ cs.length ≤ cur.size ∧ ∀ k, k < cs.length → cur[k]? = some (.int .u8 (cs.getD k 0))
theorem Pre.lt {w : World} {b : Nat} {t : TypeId} {cs : List Int} (h : Pre w b t cs) : b < w.heap.size := by
  obtain ⟨cur, hc, _⟩ := h
  exact (Array.getElem?_eq_some_iff.1 hc).1
theorem Pre.cell {w : World} {b : Nat} {t : TypeId} {cs : List Int} (h : Pre w b t cs) {k : Nat} (hk : k < cs.length) : w.cell? ⟨b, k, none⟩ = some (.int .u8 (cs.getD k 0)) := by
  obtain ⟨cur, hc, _, he⟩ := h
  rw [cell_of_row w b k cur t (0, 0) hc]
  exact he k hk
theorem Pre.free {w : World} {b : Nat} {t : TypeId} {cs : List Int} (h : Pre w b t cs) (k : Nat) : w.frozen? ⟨b, k, none⟩ = false := by
  obtain ⟨cur, hc, _⟩ := h
  exact frozen_of_row w b k cur t hc
theorem Pre.set {w : World} {b : Nat} {t : TypeId} {cs : List Int} (h : Pre w b t cs) (k : Nat) (x : Int) : Pre (w.setCell ⟨b, k, none⟩ (.int .u8 x)) b t (cs.set k x) := by
  obtain ⟨cur, hc, hl, he⟩ := h
  refine ⟨_, heap_setCell_same w b k _ t _ hc, by rw [List.length_set, Array.size_setIfInBounds]; exact hl, fun j hj => ?_⟩
  rw [List.length_set] at hj
  by_cases e : k = j
  · subst e
    rw [Array.getElem?_setIfInBounds_self_of_lt (by omega), C.getD_set_self cs k x hj]
  · rw [Array.getElem?_setIfInBounds_ne e, C.getD_set_ne cs x e]
    exact he j hj
theorem Pre.below {w w' : World} {b n : Nat} {t : TypeId} {cs : List Int} (h : Pre w b t cs) (hb : Below n w w') (hn : b < n) : Pre w' b t cs := by
  obtain ⟨cur, hc, hr⟩ := h
  exact ⟨cur, (hb.block b hn).trans hc, hr⟩
theorem Pre.other {w : World} {b b' k : Nat} {t : TypeId} {cs : List Int} {v : Value} (h : Pre w b t cs) (hb : b ≠ b') : Pre (w.setCell ⟨b', k, none⟩ v) b t cs := by
  obtain ⟨cur, hc, hr⟩ := h
  exact ⟨cur, (Below.heap_setCell w ⟨b', k, none⟩ v b hb).trans hc, hr⟩
theorem Pre.src {w : World} {g : Nat} {t : TypeId} {cs : List Int} (h : Pre w g t cs) (hk : Kinds cs) : Src w (some ⟨g, 0, none⟩) cs.length cs :=
  ⟨rfl, fun k hk' => ⟨g, 0, rfl, h.lt, by rw [Nat.zero_add]; exact h.cell hk'⟩, hk.bytes⟩
theorem Pre.conv {w : World} {g c : Nat} {t : TypeId} {cs : List Int} (h : Pre w g t cs) (hl : cs.length = 32768) (hk : Kinds cs) : (convert 37 9 (.slice (some ⟨g, 0, none⟩) 32768 c)).run Try.prog w = .ok (.string (strOfNums cs)) w := by
  have := conv_c (cap := c) (h.src hk)
  rwa [hl] at this
theorem Blk.pre {w : World} {g : Nat} {t : TypeId} {cs : List Int} (h : Blk w g t cs) : Pre w g t cs :=
  ⟨_, h, by rw [vals_size]; exact Nat.le_refl _, fun k hk => by simp [vals, hk]⟩
/-- A copy of bytes by an append to none. -/
theorem wpList_append_copy {w : World} {ops : Array Oper} {rest : List Oper} {o : Oper} {a : Act} {Q : Exit → Act → World → Prop} (hgd : o.guard = none) (s x : Operand)
    (ho : o.op = .call { callee := .builtin .append, args := #[s, x], argTypes := #[37, 37] }) (g c : Nat) (cs : List Int) (hl : cs.length = 32768) (hP : Pre w g 5 cs) (hs : a.eval s = .slice none 0 0) (hx : a.eval x = .slice (some ⟨g, 0, none⟩) 32768 c)
    (h : ∀ g' c' w', Pre w' g' 5 cs → Below w.heap.size w w' → w.heap.size ≤ g' → wpList Try.prog ops Q rest (a.put o.dst (.slice (some ⟨g', 0, none⟩) 32768 c')) w') : wpList Try.prog ops Q (o :: rest) a w := by
  obtain ⟨i, hi, hz0, hz1, hz2⟩ := info_parts C.info5
  refine wpList_append_own_at w hgd s x 37 ho w.heap.size 5 i _ 1 1 Try.underlying37 hi hz0 hz1 hz2 rfl (by decide) (.slice none 0 0) 0 [] hs (World.ownsRow_nil _ _ _ _) ⟨g, 0, none⟩ 32768 c (cs.map (Value.int .u8)) hx (by simp [hl]) (fun j u hj => ?_) (by simp [Value.oneCell']) (by simp [maxLen]) (by omega) (Nat.le_refl _) ?_
  · rw [List.getElem?_map] at hj
    obtain ⟨v, hv, rfl⟩ := Option.map_eq_some_iff.1 hj
    have hjl := (List.getElem?_eq_some_iff.1 hv).1
    rw [show (Addr.add ⟨g, 0, none⟩ j) = ⟨g, j, none⟩ by rw [Addr.add_mid, Nat.zero_add]]
    rw [hP.cell hjl, List.getD_eq_getElem?_getD, hv]
    rfl
  · intro v' w' h1 h2 _ h4
    rcases h1.2 with ⟨hv, hn⟩ | ⟨g', cap, cur, hv, hlo, hh, hk, _, hsz, ht⟩
    · omega
    · subst hv
      refine h g' cap w' ⟨cur, hh, ?_, fun k hk' => ?_⟩ ⟨h2.os, h2.tape, h2.output, h2.size, fun k hk => h2.block k hk (by simp [Value.ownBlock])⟩ hlo
      · rw [hl]; omega
      · have := congrArg (fun l => l[k]?) ht
        simp only [List.nil_append, List.getElem?_map, List.getElem?_take] at this
        rw [if_pos (by omega)] at this
        rw [← Array.getElem?_toList, this, List.getD_eq_getElem?_getD, List.getElem?_eq_getElem hk']
        rfl

theorem Pre.ne {w : World} {b b' : Nat} {cs : List Int} {a : Array Value} {t : TypeId} (h : Pre w b 5 cs) (h' : w.heap[b']? = some (.cells a t (0, 0))) (ht : t ≠ 5) : b' ≠ b := fun e => by
  subst e
  obtain ⟨cur, hc, _⟩ := h
  rw [hc] at h'
  injection h' with h'
  injection h' with _ h' _
  exact ht h'.symm
/-! ### painting -/
def jx (cx : Int) (j : Nat) : Int := cx * 16 + (j : Int) % 16
def jz (cz : Int) (j : Nat) : Int := cz * 16 + (j : Int) / 16 % 16
def jy (j : Nat) : Int := (j : Int) / 256
/-- What a feature claims of a cell of a chunk. -/
def cj (cx cz : Int) (t : Thing) (bs : List Int) (j : Nat) : Option Int := clm t (jx cx j) (jy j) (jz cz j) (bs.getD j 0)
def nOf (cx cz : Int) (t : Thing) (j : Nat) : Int := (jy j - t.h) * 25 + (jz cz j - t.z + 2) * 5 + (jx cx j - t.x + 2)
def midV (cx cz : Int) (t : Thing) (bs ds : List Int) (N : Int) (j : Nat) : Int := if nOf cx cz t j < N then (cj cx cz t bs j).getD (ds.getD j 0) else ds.getD j 0
/-- Painted up to number N of the cells about a feature. -/
def MidB (cx cz : Int) (t : Thing) (bs ds : List Int) (N : Nat) (zs : List Int) : Prop := zs.length = 32768 ∧ ∀ j, j < 32768 → zs.getD j 0 = midV cx cz t bs ds N j
section
variable {cx cz : Int} {t : Thing} {bs ds zs : List Int}
theorem cj_near {j : Nat} {v : Int} (hl : 4 ≤ t.l ∧ t.l ≤ 7) (h : cj cx cz t bs j = some v) : (-2 ≤ jx cx j - t.x ∧ jx cx j - t.x ≤ 2) ∧ (-2 ≤ jz cz j - t.z ∧ jz cz j - t.z ≤ 2) ∧ 0 ≤ jy j - t.h ∧ jy j - t.h ≤ 11 := by
  have h1 := clm_near h
  have h2 := clm_high hl h
  exact ⟨h1.1, h1.2, h2⟩
theorem n_of {j N : Nat} {v : Int} (hl : 4 ≤ t.l ∧ t.l ≤ 7) (h : cj cx cz t bs j = some v) (hn : nOf cx cz t j = N) : jx cx j = t.x + (N : Int) % 5 - 2 ∧ jy j = t.h + (N : Int) / 25 ∧ jz cz j = t.z + (N : Int) / 5 % 5 - 2 := by
  have := cj_near hl h
  unfold nOf at hn
  generalize jx cx j = a at *
  generalize jy j = b at *
  generalize jz cz j = c at *
  omega
theorem n_bd {j : Nat} {v : Int} (hl : 4 ≤ t.l ∧ t.l ≤ 7) (h : cj cx cz t bs j = some v) : 0 ≤ nOf cx cz t j ∧ nOf cx cz t j < 300 := by
  have := cj_near hl h
  unfold nOf
  generalize jx cx j = a at *
  generalize jy j = b at *
  generalize jz cz j = c at *
  omega
theorem MidB.init (h : ds.length = 32768) (hl : 4 ≤ t.l ∧ t.l ≤ 7) : MidB cx cz t bs ds 0 ds := ⟨h, fun j hj => by
  unfold midV
  split
  · rename_i hn
    rcases e : cj cx cz t bs j with _ | v
    · rfl
    · have := n_bd hl e
      omega
  · rfl⟩
theorem j_same {i j : Nat} (hi : i < 32768) (hj : j < 32768) (h1 : jx cx i = jx cx j) (h2 : jy i = jy j) (h3 : jz cz i = jz cz j) : i = j := by
  unfold jx at h1
  unfold jy at h2
  unfold jz at h3
  omega
/-- The cell with number N is one of the chunk's. -/
theorem MidB.yes {N j : Nat} (h : MidB cx cz t bs ds N zs) (hl : 4 ≤ t.l ∧ t.l ≤ 7) (hj : j < 32768) (hx : jx cx j = t.x + (N : Int) % 5 - 2) (hy : jy j = t.h + (N : Int) / 25) (hz : jz cz j = t.z + (N : Int) / 5 % 5 - 2) :
    MidB cx cz t bs ds (N + 1) (match cj cx cz t bs j with | some v => zs.set j v | none => zs) := by
  have hn : nOf cx cz t j = N := by unfold nOf; rw [hx, hy, hz]; omega
  have hlen : (match cj cx cz t bs j with | some v => zs.set j v | none => zs).length = 32768 := by
    split
    · rw [List.length_set]; exact h.1
    · exact h.1
  refine ⟨hlen, fun i hi => ?_⟩
  by_cases e : j = i
  · subst e
    unfold midV
    rw [if_pos (by omega)]
    rcases ec : cj cx cz t bs j with _ | v
    · show zs.getD j 0 = ds.getD j 0
      rw [h.2 j hj]
      unfold midV
      rw [if_neg (by omega)]
    · exact C.getD_set_self zs j v (by rw [h.1]; exact hj)
  · have e1 : (match cj cx cz t bs j with | some v => zs.set j v | none => zs).getD i 0 = zs.getD i 0 := by
      split
      · exact C.getD_set_ne zs _ e
      · rfl
    rw [e1, h.2 i hi]
    unfold midV
    by_cases hc : nOf cx cz t i < N
    · rw [if_pos hc, if_pos (by omega)]
    · rw [if_neg hc]
      split
      · rename_i h3
        rcases ec : cj cx cz t bs i with _ | v
        · rfl
        · exfalso
          obtain ⟨q1, q2, q3⟩ := n_of hl ec (N := N) (by omega)
          exact e (j_same hj hi (hx.trans q1.symm) (hy.trans q2.symm) (hz.trans q3.symm))
      · rfl
theorem MidB.no {N : Nat} (h : MidB cx cz t bs ds N zs) (hl : 4 ≤ t.l ∧ t.l ≤ 7) (hno : ∀ j, j < 32768 → jx cx j = t.x + (N : Int) % 5 - 2 → jy j = t.h + (N : Int) / 25 → jz cz j = t.z + (N : Int) / 5 % 5 - 2 → False) : MidB cx cz t bs ds (N + 1) zs := by
  refine ⟨h.1, fun i hi => ?_⟩
  rw [h.2 i hi]
  unfold midV
  by_cases hc : nOf cx cz t i < N
  · rw [if_pos hc, if_pos (by omega)]
  · rw [if_neg hc]
    split
    · rename_i h3
      rcases ec : cj cx cz t bs i with _ | v
      · rfl
      · exfalso
        obtain ⟨q1, q2, q3⟩ := n_of hl ec (N := N) (by omega)
        exact hno i hi q1 q2 q3
    · rfl
/-- Painted by the features from number i on. -/
def PaintB (cx cz : Int) (l : List Thing) (bs : List Int) (i : Nat) (zs : List Int) : Prop := zs.length = 32768 ∧ ∀ j, j < 32768 → zs.getD j 0 = pickT (jx cx j) (jy j) (jz cz j) (bs.getD j 0) (l.drop i)
theorem PaintB.init {l : List Thing} (h : bs.length = 32768) : PaintB cx cz l bs l.length bs := ⟨h, fun j _ => by rw [List.drop_length]; rfl⟩
theorem PaintB.step {l : List Thing} {i : Nat} {zs' : List Int} (h : PaintB cx cz l bs (i + 1) zs) (ht : l[i]? = some t) (hl : 4 ≤ t.l ∧ t.l ≤ 7) (hm : MidB cx cz t bs zs 300 zs') : PaintB cx cz l bs i zs' := by
  refine ⟨hm.1, fun j hj => ?_⟩
  have e : l.drop i = t :: l.drop (i + 1) := by
    obtain ⟨hi, hv⟩ := List.getElem?_eq_some_iff.1 ht
    rw [List.drop_eq_getElem_cons hi, hv]
  rw [hm.2 j hj, e, pick_cons]
  unfold midV
  rw [h.2 j hj]
  rcases ec : cj cx cz t bs j with _ | v
  · have ec' : clm t (jx cx j) (jy j) (jz cz j) (bs.getD j 0) = none := ec
    rw [ec']
    split <;> rfl
  · have ec' : clm t (jx cx j) (jy j) (jz cz j) (bs.getD j 0) = some v := ec
    rw [ec', if_pos (show nOf cx cz t j < ((300 : Nat) : Int) from (n_bd hl ec).2)]
    rfl
end
theorem PaintB.done {S : Nat} {cx cz : Int} {hs gs : List (List Int)} {bs zs : List Int} (h : PaintB cx cz (things S cx cz hs gs) bs 0 zs) : zs = buildN S cx cz hs gs bs := by
  refine C.getD_ext (by rw [h.1, buildN_len]) fun j hj => ?_
  rw [h.1] at hj
  rw [h.2 j hj, buildN_at _ _ _ _ _ _ _ hj]
  rfl
theorem things_ok {S : Nat} {cx cz : Int} {hs gs : List (List Int)} {t : Thing} (hcx : -1073741825 ≤ cx ∧ cx ≤ 1073741825) (hcz : -1073741825 ≤ cz ∧ cz ≤ 1073741825) (oH : okG 128 hs) (h : t ∈ things S cx cz hs gs) :
    t.s < 3 ∧ (-100000000000 ≤ t.x ∧ t.x ≤ 100000000000) ∧ (-100000000000 ≤ t.z ∧ t.z ≤ 100000000000) ∧ (0 ≤ t.h ∧ t.h ≤ 127) ∧ 4 ≤ t.l ∧ t.l ≤ 7 := by
  obtain ⟨s, ox, oz, hs3, e⟩ := things_mem h
  obtain ⟨ht, _, hn, _⟩ := thing_is e
  have hg := gAt_bd oH hn
  have hl := lenT_bd (hT S s ox oz)
  unfold nearB at hn
  have hn' := of_decide_eq_true hn
  rw [ht]
  simp only []
  generalize colX s (hT S s ox oz) ox = X at *
  generalize colZ s (hT S s ox oz) oz = Z at *
  generalize gAt cx cz hs X Z = G at *
  generalize lenT (hT S s ox oz) = L at *
  omega
end
section
open C Go.RowKit

/-- What the document's Apply answers. -/
def RbSay (S : Nat) (cx cz : Int) (hs gs : List (List Int)) (bs : List Int) (w : World) (e : Ending) (w' : World) : Prop :=
  Below w.heap.size w w' ∧ ∃ og oc, e = .returned (.tuple #[.slice (some ⟨og, 0, none⟩) 32768 oc, .int .i64 0]) ∧ Pre w' og 5 (buildN S cx cz hs gs bs)
theorem OwnT.cell {w : World} {B : Nat} {v : Value} {l : List Thing} (h : OwnT w B v l) (hl : 0 < l.length) : ∃ g c, v = .slice (some ⟨g, 0, none⟩) l.length c ∧ B ≤ g ∧ ∀ i t, l[i]? = some t → ∀ j, j < 5 → w.cell? ⟨g, i * 5 + j, none⟩ = (rowV t)[j]? := by
  obtain ⟨a, c, rfl, hr⟩ := h
  rcases hr.2 with ⟨h0, hn⟩ | ⟨g, cap, cur, hv, hbg, hh, hr2⟩
  · omega
  · cases hv
    refine ⟨g, c, rfl, hbg, fun i t ht j hj => ?_⟩
    have hi := (List.getElem?_eq_some_iff.1 ht).1
    rw [ownsRow_cell hr (i * 5 + j) (by omega), flatT_get l i t ht j hj]
theorem OwnT.low {w : World} {B : Nat} {v : Value} {l : List Thing} (h : OwnT w B v l) {g k : Nat} (hg : g < B) (x : Value) : OwnT (w.setCell ⟨g, k, none⟩ x) B v l := by
  obtain ⟨a, c, e, hr⟩ := h
  refine ⟨a, c, e, hr.1, ?_⟩
  rcases hr.2 with h0 | ⟨g', cap, cur, hv, hbg, hh, hr2⟩
  · exact .inl h0
  · exact .inr ⟨g', cap, cur, hv, hbg, (Below.heap_setCell w ⟨g, k, none⟩ x g' (show g' ≠ g by omega)).trans hh, hr2⟩
end
end Go.Proofs.Ytbdjgaagafnfaaa
