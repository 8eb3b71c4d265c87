/-
  The document's thing: the feature of an origin.
  The document's Things: the features that may claim cells of a chunk.
  Bytes at the beginning of a block; painting by features, plainly.
  The document's Apply.
-/
import Derived.Test.YtbdjgaagafnfaaaGreatBheld
import Derived.Maps.AppendAt
import Derived.Test.YtbdjgaagafnfaaaGreatBclaim
import Derived.Test.YtbdjgaagafnfaaaGreatCSame
import Derived.Laws.AppendOwnNone
set_option maxRecDepth 20000
namespace Go.Proofs.YtbdjgaagafnfaaaGreat
section
open C Go.RowKit

theorem and3 (n : Int) : bits .and .i64 n 3 = n % 4 := i64_mask 2 3 n (by decide) (by omega)
theorem new5 (w : World) (o0 o1 o2 o3 o4 : Obj) {w1 : World} (hb : Below (((((w.alloc o0).alloc o1).alloc o2).alloc o3).alloc o4).heap.size (((((w.alloc o0).alloc o1).alloc o2).alloc o3).alloc o4) w1) :
    w1.heap[w.heap.size]? = some o0 ∧ w1.heap[w.heap.size + 1]? = some o1 ∧ w1.heap[w.heap.size + 1 + 1]? = some o2 ∧ w1.heap[w.heap.size + 1 + 1 + 1]? = some o3 ∧ w1.heap[w.heap.size + 1 + 1 + 1 + 1]? = some o4 ∧ Below w.heap.size w w1 := by
  have s0 : (w.alloc o0).heap.size = w.heap.size + 1 := World.size_alloc _ _
  have s1 : ((w.alloc o0).alloc o1).heap.size = w.heap.size + 1 + 1 := by rw [World.size_alloc, s0]
  have s2 : (((w.alloc o0).alloc o1).alloc o2).heap.size = w.heap.size + 1 + 1 + 1 := by rw [World.size_alloc, s1]
  have s3 : ((((w.alloc o0).alloc o1).alloc o2).alloc o3).heap.size = w.heap.size + 1 + 1 + 1 + 1 := by rw [World.size_alloc, s2]
  have s4 : (((((w.alloc o0).alloc o1).alloc o2).alloc o3).alloc o4).heap.size = w.heap.size + 1 + 1 + 1 + 1 + 1 := by rw [World.size_alloc, s3]
  have a0 := heap_alloc_new w o0
  have a1 := heap_alloc_new (w.alloc o0) o1
  have a2 := heap_alloc_new ((w.alloc o0).alloc o1) o2
  have a3 := heap_alloc_new (((w.alloc o0).alloc o1).alloc o2) o3
  have a4 := heap_alloc_new ((((w.alloc o0).alloc o1).alloc o2).alloc o3) o4
  rw [s0] at a1
  rw [s1] at a2
  rw [s2] at a3
  rw [s3] at a4
  refine ⟨(hb.block _ (by omega)).trans ?_, (hb.block _ (by omega)).trans ?_, (hb.block _ (by omega)).trans ?_, (hb.block _ (by omega)).trans ?_, (hb.block _ (by omega)).trans ?_, ?_⟩
  · rw [heap_alloc_old _ o4 (by omega), heap_alloc_old _ o3 (by omega), heap_alloc_old _ o2 (by omega), heap_alloc_old _ o1 (by omega)]; exact a0
  · rw [heap_alloc_old _ o4 (by omega), heap_alloc_old _ o3 (by omega), heap_alloc_old _ o2 (by omega)]; exact a1
  · rw [heap_alloc_old _ o4 (by omega), heap_alloc_old _ o3 (by omega)]; exact a2
  · rw [heap_alloc_old _ o4 (by omega)]; exact a3
  · exact a4
  · exact (((((Below.refl _ w).alloc (Nat.le_refl _) o0).alloc (by omega) o1).alloc (by omega) o2).alloc (by omega) o3).alloc (by omega) o4 |>.trans (hb.mono (by omega))
theorem wrap_in (x : Int) (h0 : 0 ≤ x) (h1 : x < 9223372036854775808) : IntKind.i64.wrap x = x := by rw [IntKind.wrap_i64]; omega
theorem wrap64_in (x : Int) (h0 : 0 ≤ x) (h1 : x < 9223372036854775808) : wrap64 x = x := by unfold wrap64; omega
theorem shr_in (h n : Nat) (hn : 2 ≤ n) (hl : h < 18446744073709551616) : 0 ≤ (h : Int) / (n : Int) ∧ (h : Int) / (n : Int) < 9223372036854775808 := by
  have h1 : h / n ≤ h / 2 := Nat.div_le_div_left hn (by omega)
  have e : (h : Int) / (n : Int) = ((h / n : Nat) : Int) := by rw [Int.natCast_ediv]
  rw [e]
  generalize h / n = q at *
  omega
theorem set5_other {W : World} {B k : Nat} (h : k ≠ B) (v0 v1 v2 v3 v4 : Value) : (set5 W B v0 v1 v2 v3 v4).heap[k]? = W.heap[k]? := by
  unfold set5
  rw [Below.heap_setCell _ ⟨B, 4, none⟩ _ _ h, Below.heap_setCell _ ⟨B, 3, none⟩ _ _ h, Below.heap_setCell _ ⟨B, 2, none⟩ _ _ h, Below.heap_setCell _ ⟨B, 1, none⟩ _ _ h, Below.heap_setCell _ ⟨B, 0, none⟩ _ _ h]
def five (v0 v1 v2 v3 v4 : Int) : Value := .agg #[.int .i64 v0, .int .i64 v1, .int .i64 v2, .int .i64 v3, .int .i64 v4]
/-- What the feature of an origin is told as. -/
def RtSay (o : Option Thing) (w : World) (e : Ending) (w' : World) : Prop :=
  Below w.heap.size w w' ∧ ∃ v0 v1 v2 v3 v4 : Int, e = .returned (.tuple #[.agg #[.int .i64 v0, .int .i64 v1, .int .i64 v2, .int .i64 v3, .int .i64 v4], .bool o.isSome]) ∧ ∀ t, o = some t → v0 = (t.s : Int) ∧ v1 = t.x ∧ v2 = t.z ∧ v3 = t.h ∧ v4 = t.l
set_option maxRecDepth 100000 in
set_option maxHeartbeats 4000000 in
theorem rthing0_c (S : Nat) (cx cz ox oz : Int) (a a' : Option Addr) (c c' : Nat) (hs bs : List (List Int)) (w : World) (hS : S < 18446744073709551616) (hx : -10000000000000 ≤ ox ∧ ox ≤ 10000000000000) (hz : -10000000000000 ≤ oz ∧ oz ≤ 10000000000000) (hcx : -1000000000000000 ≤ cx ∧ cx ≤ 1000000000000000) (hcz : -1000000000000000 ≤ cz ∧ cz ≤ 1000000000000000)
    (hH : Rows2 w a hs) (hB : Rows2 w a' bs) (oH : okG 128 hs) (oB : okG 4 bs) :
    Calls Tryz.prog 49 #[.int .u64 S, .agg #[.int .i64 cx, .int .i64 cz], .slice a 9 c, .slice a' 9 c', .int .i64 0, .int .i64 ox, .int .i64 oz] w (RtSay (thingN S 0 cx cz hs bs ox oz) w) := by
  have hTe : thingN S 0 cx cz hs bs ox oz = thingH 0 (R.hashN S 41 ox 0 oz) cx cz hs bs ox oz := rfl
  rw [hTe]
  clear hTe
  have hlt := R.hashN_lt S 41 ox 0 oz
  have hh := fun w => R.rhash_any S 41 ox 0 oz w hS
  generalize R.hashN S 41 ox 0 oz = h at *
  have hb := fun w => R.rbelow_any h 100 w hlt (by omega)
  obtain ⟨Post, hPost⟩ : ∃ Post : Ending → World → Prop, Post = RtSay (thingH 0 h cx cz hs bs ox oz) w := ⟨_, rfl⟩
  rw [← hPost]
  have HP : Hid (∀ e w', RtSay (thingH 0 h cx cz hs bs ox oz) w e w' → Post e w') := fun e w' h => by rw [hPost]; exact h
  clear hPost
  have Hbv : Hid (∀ b : Int, R.belowN h 100 = b → ∀ t, thingH 0 h cx cz hs bs ox oz = some t → b < 35) := fun b e t ht => by rw [← e]; exact (thing_is ht).2.1
  have Hth : Hid (thingH 0 h cx cz hs bs ox oz = if (decide (R.belowN h 100 < 35) && nearB cx cz (colX 0 h ox) (colZ 0 h oz) && standB 0 h (gAt cx cz hs (colX 0 h ox) (colZ 0 h oz)) (gAt cx cz bs (colX 0 h ox) (colZ 0 h oz))) = true then some ⟨0, colX 0 h ox, colZ 0 h oz, gAt cx cz hs (colX 0 h ox) (colZ 0 h oz), lenT h⟩ else none) := rfl
  have HHs : Hid (Rows2 w a hs ∧ okG 128 hs) := ⟨hH, oH⟩
  have HBs : Hid (Rows2 w a' bs ∧ okG 4 bs) := ⟨hB, oB⟩
  obtain ⟨bv, hbv⟩ : ∃ b : Int, R.belowN h 100 = b := ⟨_, rfl⟩
  rw [hbv] at hb Hth
  have Hb : Hid (∀ w, Calls Tryz.prog 69 #[.int .u64 (h : Int), .int .i64 100] w fun e w' => e = .returned (.int .i64 bv) ∧ Below w.heap.size w w') := fun w => (hb w).mono fun _ _ ⟨h1, e⟩ => ⟨h1, by rw [e]; exact Below.refl _ _⟩
  clear hb hbv Hbv hH hB oH oB
  obtain ⟨x0, x1⟩ := hx
  obtain ⟨z0, z1⟩ := hz
  go_enter Tryz.func49, Tryz.ntmps49
  go_wp2_with fail
  refine (hh _).mono ?_
  clear hh
  rintro _ w1 ⟨rfl, hb1⟩
  obtain ⟨hX1, hO1, _, hS1, hM1, hbw⟩ := new5 w _ _ _ _ _ hb1
  have HX1 : Hid (w1.heap[w.heap.size]? = some (.cells #[.int .i64 cx, .int .i64 cz] 24 (0, 0))) := hX1
  have HO1 : Hid (w1.heap[w.heap.size + 1]? = some (.cells #[.int .i64 0, .int .i64 0, .int .i64 0, .int .i64 0, .int .i64 0] 77 (0, 0))) := hO1
  have HS1 : Hid (w1.heap[w.heap.size + 1 + 1 + 1]? = some (.cells #[.int .i64 32, .int .i64 16, .int .i64 8] 107 (0, 0))) := hS1
  have HB1 : Hid (Below w.heap.size w w1) := hbw
  have hsome := since_some w1
  have k0 := fun s : Since w1 => Since.cell ((cell_of_row w1 (w.heap.size + 1 + 1 + 1 + 1) 0 _ 107 (0, 0) hM1).trans rfl) s
  clear hb1 hX1 hO1 hS1 hbw
  go_wp2_with fail
  refine wp_region_since (by kernel_rfl) (by kernel_rfl) ?_
  repeat (go_big_quiet_step (first | (go_at_call 69; exact Calls.since (Hb.out _))))
  refine wpQuiet_nil ?_
  rintro _ ⟨s, rfl⟩
  have HB2 : Hid (Below w.heap.size w s.w) := HB1.out.trans (s.bel.mono HB1.out.size)
  have HX2 : Hid (s.w.heap[w.heap.size]? = some (.cells #[.int .i64 cx, .int .i64 cz] 24 (0, 0))) := (s.bel.block _ (Array.getElem?_eq_some_iff.1 HX1.out).1).trans HX1.out
  have HO2 : Hid (s.w.heap[w.heap.size + 1]? = some (.cells #[.int .i64 0, .int .i64 0, .int .i64 0, .int .i64 0, .int .i64 0] 77 (0, 0))) := (s.bel.block _ (Array.getElem?_eq_some_iff.1 HO1.out).1).trans HO1.out
  have HS2 : Hid (s.w.heap[w.heap.size + 1 + 1 + 1]? = some (.cells #[.int .i64 32, .int .i64 16, .int .i64 8] 107 (0, 0))) := (s.bel.block _ (Array.getElem?_eq_some_iff.1 HS1.out).1).trans HS1.out
  generalize s.w = W2 at *
  clear hsome k0 HB1 HX1 HO1 HS1 hM1
  by_cases hbv : bv < 35
  case neg =>
    have hbv' : 35 ≤ bv := by omega
    have c0 : W2.cell? ⟨w.heap.size + 1, 0, none⟩ = some (.int .i64 0) := (cell_of_row W2 (w.heap.size + 1) 0 _ 77 (0, 0) HO2.out).trans rfl
    have f0 : W2.frozen? ⟨w.heap.size + 1, 0, none⟩ = false := frozen_of_row W2 (w.heap.size + 1) 0 _ 77 HO2.out
    have c1 : W2.cell? ⟨w.heap.size + 1, 1, none⟩ = some (.int .i64 0) := (cell_of_row W2 (w.heap.size + 1) 1 _ 77 (0, 0) HO2.out).trans rfl
    have f1 : W2.frozen? ⟨w.heap.size + 1, 1, none⟩ = false := frozen_of_row W2 (w.heap.size + 1) 1 _ 77 HO2.out
    have c2 : W2.cell? ⟨w.heap.size + 1, 2, none⟩ = some (.int .i64 0) := (cell_of_row W2 (w.heap.size + 1) 2 _ 77 (0, 0) HO2.out).trans rfl
    have f2 : W2.frozen? ⟨w.heap.size + 1, 2, none⟩ = false := frozen_of_row W2 (w.heap.size + 1) 2 _ 77 HO2.out
    have c3 : W2.cell? ⟨w.heap.size + 1, 3, none⟩ = some (.int .i64 0) := (cell_of_row W2 (w.heap.size + 1) 3 _ 77 (0, 0) HO2.out).trans rfl
    have f3 : W2.frozen? ⟨w.heap.size + 1, 3, none⟩ = false := frozen_of_row W2 (w.heap.size + 1) 3 _ 77 HO2.out
    have c4 : W2.cell? ⟨w.heap.size + 1, 4, none⟩ = some (.int .i64 0) := (cell_of_row W2 (w.heap.size + 1) 4 _ 77 (0, 0) HO2.out).trans rfl
    have f4 : W2.frozen? ⟨w.heap.size + 1, 4, none⟩ = false := frozen_of_row W2 (w.heap.size + 1) 4 _ 77 HO2.out
    have R := HP.out _ _ (show RtSay (thingH 0 h cx cz hs bs ox oz) w (.returned (.tuple #[.agg #[.int .i64 0, .int .i64 0, .int .i64 0, .int .i64 0, .int .i64 0], .bool false])) (set5 W2 (w.heap.size + 1) (.int .i64 0) (.int .i64 0) (.int .i64 0) (.int .i64 0) (.int .i64 0)) from by
      have hn : thingH 0 h cx cz hs bs ox oz = none := by rw [Hth.out, decide_eq_false hbv]; rfl
      rw [hn]
      exact ⟨set5_below HB2.out _ _ _ _ _, 0, 0, 0, 0, 0, rfl, fun t ht => by cases ht⟩)
    have HS5 : Hid ((set5 W2 (w.heap.size + 1) (.int .i64 0) (.int .i64 0) (.int .i64 0) (.int .i64 0) (.int .i64 0)).heap[w.heap.size + 1]? = some (.cells #[.int .i64 0, .int .i64 0, .int .i64 0, .int .i64 0, .int .i64 0] 77 (0, 0))) := set5_row HO2.out _ _ _ _ _
    clear HP Hth HHs HBs HB2 HX2 HO2 HS2 Hb
    go_wp2
    exact bodyPost_ret (results_row_tmp (p := 14) (u := 15) (ty := 77) rfl _ _ (w.heap.size + 1) 77 _ (0, 0) _ rfl HS5.out Tryz.underlying77 rfl (by kernel_rfl)) rfl R
  have hbv' : ¬ 35 ≤ bv := by omega
  have Hth2 : Hid (thingH 0 h cx cz hs bs ox oz = if (nearB cx cz (colX 0 h ox) (colZ 0 h oz) && standB 0 h (gAt cx cz hs (colX 0 h ox) (colZ 0 h oz)) (gAt cx cz bs (colX 0 h ox) (colZ 0 h oz))) = true then some ⟨0, colX 0 h ox, colZ 0 h oz, gAt cx cz hs (colX 0 h ox) (colZ 0 h oz), lenT h⟩ else none) := by show _ = _; rw [Hth.out, decide_eq_true hbv, Bool.true_and]
  clear Hth Hb hbv
  have e4 : bits .and .i64 ((h : Int) / 65536) 3 = ((h / 65536 % 4 : Nat) : Int) := by rw [and3]; omega
  have HL : Hid (lenT h = 4 + ((h / 65536 % 4 : Nat) : Int)) := rfl
  have b4 : h / 65536 % 4 < 4 := Nat.mod_lt _ (by omega)
  generalize h / 65536 % 4 = M4 at *
  obtain ⟨lt, hlt4⟩ : ∃ l : Int, (4 : Int) + (M4 : Int) = l := ⟨_, rfl⟩
  have wl : IntKind.i64.wrap (4 + (M4 : Int)) = lt := by rw [IntKind.wrap_i64]; omega
  rw [hlt4] at HL
  have wx : IntKind.i64.wrap (32 * ox) = 32 * ox := by rw [IntKind.wrap_i64]; omega
  have wz : IntKind.i64.wrap (32 * oz) = 32 * oz := by rw [IntKind.wrap_i64]; omega
  have hcw2 : IntKind.i64.wrap ((h : Int) / 65536) = (h : Int) / 65536 := wrap_in _ (shr_in h 65536 (by omega) hlt).1 (shr_in h 65536 (by omega) hlt).2
  clear hlt4
  go_wp2_with fail
  refine region_L (fun w' => Below W2.heap.size W2 w') 19 (by kernel_rfl) ?_
  have hHeld : Below W2.heap.size W2 W2.drew := (Below.refl _ _).drew
  have HB3 : Hid (Below w.heap.size w W2.drew) := HB2.out.drew
  have HX3 : Hid (W2.drew.heap[w.heap.size]? = some (.cells #[.int .i64 cx, .int .i64 cz] 24 (0, 0))) := HX2.out
  have HO3 : Hid (W2.drew.heap[w.heap.size + 1]? = some (.cells #[.int .i64 0, .int .i64 0, .int .i64 0, .int .i64 0, .int .i64 0] 77 (0, 0))) := HO2.out
  have k0 : ∀ s : Sub (fun w' => Below W2.heap.size W2 w'), s.w.cell? ⟨w.heap.size + 1 + 1 + 1, 0, none⟩ = some (.int .i64 32) := fun s => cell_below ((cell_of_row W2 (w.heap.size + 1 + 1 + 1) 0 _ 107 (0, 0) HS2.out).trans rfl) s.ok
  have hne : Nonempty (Sub (fun w' => Below W2.heap.size W2 w')) := ⟨⟨_, hHeld⟩⟩
  clear HB2 HX2 HO2
  generalize W2.drew = W3 at *
  refine take_L (i := 0) rfl (by kernel_rfl) (by kernel_rfl) (by kernel_rfl) (by kernel_rfl) (fun _ _ _ _ h => h) (by exact hHeld) (fun K hK => ?_)
  go_simp
  refine hK _ ?_
  clear hK K
  refine take_L (i := 1) rfl (by kernel_rfl) (by kernel_rfl) (by kernel_rfl) (by kernel_rfl) (fun _ _ _ _ h => h) (by exact hHeld) (fun K hK => ?_)
  go_simp
  refine hK _ ?_
  clear hK K
  refine take_L (i := 2) rfl (by kernel_rfl) (by kernel_rfl) (by kernel_rfl) (by kernel_rfl) (fun _ _ _ _ h => h) (by exact hHeld) (fun K hK => ?_)
  go_simp
  refine hK _ ?_
  clear hK K
  refine take_L (i := 3) rfl (by kernel_rfl) (by kernel_rfl) (by kernel_rfl) (by kernel_rfl) (fun _ _ _ _ h => h) (by exact hHeld) (fun K hK => ?_)
  go_simp
  refine hK _ ?_
  clear hK K
  refine take_L (i := 4) rfl (by kernel_rfl) (by kernel_rfl) (by kernel_rfl) (by kernel_rfl) (fun _ _ _ _ h => h) (by exact hHeld) (fun K hK => ?_)
  go_simp
  refine hK _ ?_
  clear hK K
  refine take_L (i := 5) rfl (by kernel_rfl) (by kernel_rfl) (by kernel_rfl) (by kernel_rfl) (fun _ _ _ _ h => h) (by exact hHeld) (fun K hK => ?_)
  go_simp
  refine hK _ ?_
  clear hK K
  refine take_L (i := 6) rfl (by kernel_rfl) (by kernel_rfl) (by kernel_rfl) (by kernel_rfl) (fun _ _ _ _ h => h) (by exact hHeld) (fun K hK => ?_)
  go_simp
  refine hK _ ?_
  clear hK K
  refine take_L (i := 7) rfl (by kernel_rfl) (by kernel_rfl) (by kernel_rfl) (by kernel_rfl) (fun _ _ _ _ h => h) (by exact hHeld) (fun K hK => ?_)
  go_simp
  refine hK _ ?_
  clear hK K
  refine take_L (i := 8) rfl (by kernel_rfl) (by kernel_rfl) (by kernel_rfl) (by kernel_rfl) (fun _ _ _ _ h => h) (by exact hHeld) (fun K hK => ?_)
  go_simp
  refine hK _ ?_
  clear hK K
  refine take_L (i := 9) rfl (by kernel_rfl) (by kernel_rfl) (by kernel_rfl) (by kernel_rfl) (fun _ _ _ _ h => h) (by exact hHeld) (fun K hK => ?_)
  go_simp
  refine hK _ ?_
  clear hK K
  refine take_L (i := 10) rfl (by kernel_rfl) (by kernel_rfl) (by kernel_rfl) (by kernel_rfl) (fun _ _ _ _ h => h) (by exact hHeld) (fun K hK => ?_)
  go_simp
  refine hK _ ?_
  clear hK K
  refine take_L (i := 11) rfl (by kernel_rfl) (by kernel_rfl) (by kernel_rfl) (by kernel_rfl) (fun _ _ _ _ h => h) (by exact hHeld) (fun K hK => ?_)
  go_simp
  refine hK _ ?_
  clear hK K
  refine take_L (i := 12) rfl (by kernel_rfl) (by kernel_rfl) (by kernel_rfl) (by kernel_rfl) (fun _ _ _ _ h => h) (by exact hHeld) (fun K hK => ?_)
  go_simp
  refine hK _ ?_
  clear hK K
  refine take_L (i := 13) rfl (by kernel_rfl) (by kernel_rfl) (by kernel_rfl) (by kernel_rfl) (fun _ _ _ _ h => h) (by exact hHeld) (fun K hK => ?_)
  go_simp
  refine hK _ ?_
  clear hK K
  refine take_L (i := 14) rfl (by kernel_rfl) (by kernel_rfl) (by kernel_rfl) (by kernel_rfl) (fun _ _ _ _ h => h) (by exact hHeld) (fun K hK => ?_)
  go_simp
  refine hK _ ?_
  clear hK K
  refine take_L (i := 15) rfl (by kernel_rfl) (by kernel_rfl) (by kernel_rfl) (by kernel_rfl) (fun _ _ _ _ h => h) (by exact hHeld) (fun K hK => ?_)
  go_simp
  refine hK _ ?_
  clear hK K
  refine take_L (i := 16) rfl (by kernel_rfl) (by kernel_rfl) (by kernel_rfl) (by kernel_rfl) (fun _ _ _ _ h => h) (by exact hHeld) (fun K hK => ?_)
  go_simp
  refine hK _ ?_
  clear hK K
  refine one_L (i := 17) (by kernel_rfl) rfl (fun K hK => ?_)
  go_simp
  have Hv2 : Hid (W2.heap.size ≤ W3.heap.size) := hHeld.size
  replace hHeld : Below W2.heap.size W2 (W3.alloc (.cells #[.int .i64 0, .int .i64 0, .int .i64 0, .int .i64 0, .int .i64 0] 77)) := hHeld.alloc hHeld.size _
  refine hK.out _ _ (fun _ => hHeld) ?_
  clear hK K k0 hne wx wz wl hcw2 e4
  have HB4 : Hid (Below w.heap.size w (W3.alloc (.cells #[.int .i64 0, .int .i64 0, .int .i64 0, .int .i64 0, .int .i64 0] 77))) := HB3.out.alloc HB3.out.size _
  have HX4 : Hid ((W3.alloc (.cells #[.int .i64 0, .int .i64 0, .int .i64 0, .int .i64 0, .int .i64 0] 77)).heap[w.heap.size]? = some (.cells #[.int .i64 cx, .int .i64 cz] 24 (0, 0))) := (heap_alloc_old W3 _ (Array.getElem?_eq_some_iff.1 HX3.out).1).trans HX3.out
  have HO4 : Hid ((W3.alloc (.cells #[.int .i64 0, .int .i64 0, .int .i64 0, .int .i64 0, .int .i64 0] 77)).heap[w.heap.size + 1]? = some (.cells #[.int .i64 0, .int .i64 0, .int .i64 0, .int .i64 0, .int .i64 0] 77 (0, 0))) := (heap_alloc_old W3 _ (Array.getElem?_eq_some_iff.1 HO3.out).1).trans HO3.out
  have HV4 : Hid ((W3.alloc (.cells #[.int .i64 0, .int .i64 0, .int .i64 0, .int .i64 0, .int .i64 0] 77)).heap[W3.heap.size]? = some (.cells #[.int .i64 0, .int .i64 0, .int .i64 0, .int .i64 0, .int .i64 0] 77 (0, 0))) := heap_alloc_new W3 _
  have Hvb : Hid (w.heap.size + 1 < W3.heap.size) := (Array.getElem?_eq_some_iff.1 HO3.out).1
  generalize W3.alloc _ = W4 at *
  generalize W3.heap.size = vb at *
  clear HB3 HX3 HO3 W3
  have c0 : W4.cell? ⟨vb, 0, none⟩ = some (.int .i64 0) := (cell_of_row W4 vb 0 _ 77 (0, 0) HV4.out).trans rfl
  have f0 : W4.frozen? ⟨vb, 0, none⟩ = false := frozen_of_row W4 vb 0 _ 77 HV4.out
  have c1 : W4.cell? ⟨vb, 1, none⟩ = some (.int .i64 0) := (cell_of_row W4 vb 1 _ 77 (0, 0) HV4.out).trans rfl
  have f1 : W4.frozen? ⟨vb, 1, none⟩ = false := frozen_of_row W4 vb 1 _ 77 HV4.out
  have c2 : W4.cell? ⟨vb, 2, none⟩ = some (.int .i64 0) := (cell_of_row W4 vb 2 _ 77 (0, 0) HV4.out).trans rfl
  have f2 : W4.frozen? ⟨vb, 2, none⟩ = false := frozen_of_row W4 vb 2 _ 77 HV4.out
  have c3 : W4.cell? ⟨vb, 3, none⟩ = some (.int .i64 0) := (cell_of_row W4 vb 3 _ 77 (0, 0) HV4.out).trans rfl
  have f3 : W4.frozen? ⟨vb, 3, none⟩ = false := frozen_of_row W4 vb 3 _ 77 HV4.out
  have c4 : W4.cell? ⟨vb, 4, none⟩ = some (.int .i64 0) := (cell_of_row W4 vb 4 _ 77 (0, 0) HV4.out).trans rfl
  have f4 : W4.frozen? ⟨vb, 4, none⟩ = false := frozen_of_row W4 vb 4 _ 77 HV4.out
  refine one_L (i := 18) (by kernel_rfl) rfl (fun K hK => ?_)
  go_simp
  refine hK.out _ _ (fun _ => set5_below hHeld _ _ _ _ _ Hv2.out) ?_
  clear hK K
  refine done_L (by kernel_rfl) ?_ _
  have HV5 : Hid ((set5 W4 vb (.int .i64 0) (.int .i64 (32 * ox)) (.int .i64 (32 * oz)) (.int .i64 0) (.int .i64 lt)).heap[vb]? = some (.cells #[.int .i64 0, .int .i64 (32 * ox), .int .i64 (32 * oz), .int .i64 0, .int .i64 lt] 77 (0, 0))) := set5_row HV4.out _ _ _ _ _
  have HX5 : Hid ((set5 W4 vb (.int .i64 0) (.int .i64 (32 * ox)) (.int .i64 (32 * oz)) (.int .i64 0) (.int .i64 lt)).heap[w.heap.size]? = some (.cells #[.int .i64 cx, .int .i64 cz] 24 (0, 0))) := (set5_other (by have := Hvb.out; omega) _ _ _ _ _).trans HX4.out
  have HO5 : Hid ((set5 W4 vb (.int .i64 0) (.int .i64 (32 * ox)) (.int .i64 (32 * oz)) (.int .i64 0) (.int .i64 lt)).heap[w.heap.size + 1]? = some (.cells #[.int .i64 0, .int .i64 0, .int .i64 0, .int .i64 0, .int .i64 0] 77 (0, 0))) := (set5_other (by have := Hvb.out; omega) _ _ _ _ _).trans HO4.out
  have HB5 : Hid (Below w.heap.size w (set5 W4 vb (.int .i64 0) (.int .i64 (32 * ox)) (.int .i64 (32 * oz)) (.int .i64 0) (.int .i64 lt))) := set5_below HB4.out _ _ _ _ _ (by have := Hvb.out; omega)
  unfold set5 at HV5 HX5 HO5 HB5
  generalize ((((W4.setCell ⟨vb, 0, none⟩ (.int .i64 0)).setCell ⟨vb, 1, none⟩ (.int .i64 (32 * ox))).setCell ⟨vb, 2, none⟩ (.int .i64 (32 * oz))).setCell ⟨vb, 3, none⟩ (.int .i64 0)).setCell ⟨vb, 4, none⟩ (.int .i64 lt) = W5 at *
  clear c0 c1 c2 c3 c4 f0 f1 f2 f3 f4 HV4 HX4 HO4 HB4 hHeld Hv2 HS2 W4
  have c0 : W5.cell? ⟨vb, 0, none⟩ = some (.int .i64 0) := (cell_of_row W5 vb 0 _ 77 (0, 0) HV5.out).trans rfl
  have f0 : W5.frozen? ⟨vb, 0, none⟩ = false := frozen_of_row W5 vb 0 _ 77 HV5.out
  have c1 : W5.cell? ⟨vb, 1, none⟩ = some (.int .i64 (32 * ox)) := (cell_of_row W5 vb 1 _ 77 (0, 0) HV5.out).trans rfl
  have f1 : W5.frozen? ⟨vb, 1, none⟩ = false := frozen_of_row W5 vb 1 _ 77 HV5.out
  have c2 : W5.cell? ⟨vb, 2, none⟩ = some (.int .i64 (32 * oz)) := (cell_of_row W5 vb 2 _ 77 (0, 0) HV5.out).trans rfl
  have f2 : W5.frozen? ⟨vb, 2, none⟩ = false := frozen_of_row W5 vb 2 _ 77 HV5.out
  have c3 : W5.cell? ⟨vb, 3, none⟩ = some (.int .i64 0) := (cell_of_row W5 vb 3 _ 77 (0, 0) HV5.out).trans rfl
  have f3 : W5.frozen? ⟨vb, 3, none⟩ = false := frozen_of_row W5 vb 3 _ 77 HV5.out
  have c4 : W5.cell? ⟨vb, 4, none⟩ = some (.int .i64 lt) := (cell_of_row W5 vb 4 _ 77 (0, 0) HV5.out).trans rfl
  have f4 : W5.frozen? ⟨vb, 4, none⟩ = false := frozen_of_row W5 vb 4 _ 77 HV5.out
  have e1 : bits .and .i64 ((h : Int) / 256) 15 = ((h / 256 % 16 : Nat) : Int) := by rw [and15]; omega
  have e2 : bits .and .i64 ((h : Int) / 4096) 15 = ((h / 4096 % 16 : Nat) : Int) := by rw [and15]; omega
  have HcX : Hid (colX 0 h ox = 32 * ox + ((h / 256 % 16 : Nat) : Int) + 8) := rfl
  have HcZ : Hid (colZ 0 h oz = 32 * oz + ((h / 4096 % 16 : Nat) : Int) + 8) := rfl
  have b1 : h / 256 % 16 < 16 := Nat.mod_lt _ (by omega)
  have b2 : h / 4096 % 16 < 16 := Nat.mod_lt _ (by omega)
  generalize h / 256 % 16 = M1 at *
  generalize h / 4096 % 16 = M2 at *
  have k0 : W5.cell? ⟨w.heap.size, 0, none⟩ = some (.int .i64 cx) := (cell_of_row W5 w.heap.size 0 _ 24 (0, 0) HX5.out).trans rfl
  have k1 : W5.cell? ⟨w.heap.size, 1, none⟩ = some (.int .i64 cz) := (cell_of_row W5 w.heap.size 1 _ 24 (0, 0) HX5.out).trans rfl
  have hnv : ¬ w.heap.size = vb := by have := Hvb.out; omega
  have hn0 : Hid (w.heap.size ≠ vb) := hnv
  have hn1 : Hid (w.heap.size + 1 ≠ vb) := by show _ ≠ _; have := Hvb.out; omega
  go_upto_region 13 with fail
  have HV6 : Hid (((W5.setCell ⟨vb, 1, none⟩ (.int .i64 (32 * ox + (M1 : Int)))).setCell ⟨vb, 2, none⟩ (.int .i64 (32 * oz + (M2 : Int)))).heap[vb]? = some (.cells #[.int .i64 0, .int .i64 (32 * ox + (M1 : Int)), .int .i64 (32 * oz + (M2 : Int)), .int .i64 0, .int .i64 lt] 77 (0, 0))) := by show _ = _; rw [heap_setCell_same _ vb 2 _ 77 _ (heap_setCell_same W5 vb 1 _ 77 _ HV5.out)]; rfl
  have HX6 : Hid (((W5.setCell ⟨vb, 1, none⟩ (.int .i64 (32 * ox + (M1 : Int)))).setCell ⟨vb, 2, none⟩ (.int .i64 (32 * oz + (M2 : Int)))).heap[w.heap.size]? = some (.cells #[.int .i64 cx, .int .i64 cz] 24 (0, 0))) := by show _ = _; rw [Below.heap_setCell _ ⟨vb, 2, none⟩ _ w.heap.size hn0.out, Below.heap_setCell _ ⟨vb, 1, none⟩ _ w.heap.size hn0.out]; exact HX5.out
  have HO6 : Hid (((W5.setCell ⟨vb, 1, none⟩ (.int .i64 (32 * ox + (M1 : Int)))).setCell ⟨vb, 2, none⟩ (.int .i64 (32 * oz + (M2 : Int)))).heap[w.heap.size + 1]? = some (.cells #[.int .i64 0, .int .i64 0, .int .i64 0, .int .i64 0, .int .i64 0] 77 (0, 0))) := by show _ = _; rw [Below.heap_setCell _ ⟨vb, 2, none⟩ _ (w.heap.size + 1) hn1.out, Below.heap_setCell _ ⟨vb, 1, none⟩ _ (w.heap.size + 1) hn1.out]; exact HO5.out
  have HB6 : Hid (Below w.heap.size w ((W5.setCell ⟨vb, 1, none⟩ (.int .i64 (32 * ox + (M1 : Int)))).setCell ⟨vb, 2, none⟩ (.int .i64 (32 * oz + (M2 : Int))))) := (HB5.out.setCell (p := ⟨vb, 1, none⟩) (by have := Hvb.out; show w.heap.size ≤ vb; omega) _).setCell (p := ⟨vb, 2, none⟩) (by have := Hvb.out; show w.heap.size ≤ vb; omega) _
  generalize (W5.setCell ⟨vb, 1, none⟩ (.int .i64 (32 * ox + (M1 : Int)))).setCell ⟨vb, 2, none⟩ (.int .i64 (32 * oz + (M2 : Int))) = W6 at *
  clear HV5 HX5 HO5 HB5
  clear c0 c1 c2 c3 c4 f0 f1 f2 f3 f4 k0 k1 W5
  have c1 : W6.cell? ⟨vb, 1, none⟩ = some (.int .i64 (32 * ox + (M1 : Int))) := (cell_of_row W6 vb 1 _ 77 (0, 0) HV6.out).trans rfl
  have f1 : W6.frozen? ⟨vb, 1, none⟩ = false := frozen_of_row W6 vb 1 _ 77 HV6.out
  have c2 : W6.cell? ⟨vb, 2, none⟩ = some (.int .i64 (32 * oz + (M2 : Int))) := (cell_of_row W6 vb 2 _ 77 (0, 0) HV6.out).trans rfl
  have f2 : W6.frozen? ⟨vb, 2, none⟩ = false := frozen_of_row W6 vb 2 _ 77 HV6.out
  go_upto_region 16 with fail
  have HV7 : Hid (((W6.setCell ⟨vb, 1, none⟩ (.int .i64 (32 * ox + (M1 : Int) + 8))).setCell ⟨vb, 2, none⟩ (.int .i64 (32 * oz + (M2 : Int) + 8))).heap[vb]? = some (.cells #[.int .i64 0, .int .i64 (32 * ox + (M1 : Int) + 8), .int .i64 (32 * oz + (M2 : Int) + 8), .int .i64 0, .int .i64 lt] 77 (0, 0))) := by show _ = _; rw [heap_setCell_same _ vb 2 _ 77 _ (heap_setCell_same W6 vb 1 _ 77 _ HV6.out)]; rfl
  have HX7 : Hid (((W6.setCell ⟨vb, 1, none⟩ (.int .i64 (32 * ox + (M1 : Int) + 8))).setCell ⟨vb, 2, none⟩ (.int .i64 (32 * oz + (M2 : Int) + 8))).heap[w.heap.size]? = some (.cells #[.int .i64 cx, .int .i64 cz] 24 (0, 0))) := by show _ = _; rw [Below.heap_setCell _ ⟨vb, 2, none⟩ _ w.heap.size hn0.out, Below.heap_setCell _ ⟨vb, 1, none⟩ _ w.heap.size hn0.out]; exact HX6.out
  have HO7 : Hid (((W6.setCell ⟨vb, 1, none⟩ (.int .i64 (32 * ox + (M1 : Int) + 8))).setCell ⟨vb, 2, none⟩ (.int .i64 (32 * oz + (M2 : Int) + 8))).heap[w.heap.size + 1]? = some (.cells #[.int .i64 0, .int .i64 0, .int .i64 0, .int .i64 0, .int .i64 0] 77 (0, 0))) := by show _ = _; rw [Below.heap_setCell _ ⟨vb, 2, none⟩ _ (w.heap.size + 1) hn1.out, Below.heap_setCell _ ⟨vb, 1, none⟩ _ (w.heap.size + 1) hn1.out]; exact HO6.out
  have HB7 : Hid (Below w.heap.size w ((W6.setCell ⟨vb, 1, none⟩ (.int .i64 (32 * ox + (M1 : Int) + 8))).setCell ⟨vb, 2, none⟩ (.int .i64 (32 * oz + (M2 : Int) + 8)))) := (HB6.out.setCell (p := ⟨vb, 1, none⟩) (by have := Hvb.out; show w.heap.size ≤ vb; omega) _).setCell (p := ⟨vb, 2, none⟩) (by have := Hvb.out; show w.heap.size ≤ vb; omega) _
  generalize (W6.setCell ⟨vb, 1, none⟩ (.int .i64 (32 * ox + (M1 : Int) + 8))).setCell ⟨vb, 2, none⟩ (.int .i64 (32 * oz + (M2 : Int) + 8)) = W7 at *
  clear HV6 HX6 HO6 HB6
  clear c1 c2 f1 f2 W6
  obtain ⟨XX, hXX⟩ : ∃ v : Int, 32 * ox + (M1 : Int) + 8 = v := ⟨_, rfl⟩
  obtain ⟨ZZ, hZZ⟩ : ∃ v : Int, 32 * oz + (M2 : Int) + 8 = v := ⟨_, rfl⟩
  rw [hXX, hZZ] at HV7
  have c1 : W7.cell? ⟨vb, 1, none⟩ = some (.int .i64 XX) := (cell_of_row W7 vb 1 _ 77 (0, 0) HV7.out).trans rfl
  have c2 : W7.cell? ⟨vb, 2, none⟩ = some (.int .i64 ZZ) := (cell_of_row W7 vb 2 _ 77 (0, 0) HV7.out).trans rfl
  have k0 : W7.cell? ⟨w.heap.size, 0, none⟩ = some (.int .i64 cx) := (cell_of_row W7 w.heap.size 0 _ 24 (0, 0) HX7.out).trans rfl
  have k1 : W7.cell? ⟨w.heap.size, 1, none⟩ = some (.int .i64 cz) := (cell_of_row W7 w.heap.size 1 _ 24 (0, 0) HX7.out).trans rfl
  go_wp2_with fail
  clear c1 c2
  have hgr := rground_c cx cz XX ZZ a a' c c' hs bs W7 (by omega) (by omega) hcx hcz (HHs.out.1.on HB7.out) (HBs.out.1.on HB7.out) HHs.out.2 HBs.out.2
  have hge : toldG cx cz hs bs XX ZZ = .returned (.tuple #[.int .i64 (if nearB cx cz XX ZZ then gAt cx cz hs XX ZZ else 0), .int .i64 (if nearB cx cz XX ZZ then gAt cx cz bs XX ZZ else 0), .bool (nearB cx cz XX ZZ)]) := rfl
  rw [hge] at hgr
  clear hge
  rw [show 32 * ox + (M1 : Int) + 8 = XX from hXX] at HcX
  rw [show 32 * oz + (M2 : Int) + 8 = ZZ from hZZ] at HcZ
  rw [HcX.out, HcZ.out, HL.out] at Hth2
  clear HHs HBs HcX HcZ HL
  generalize nearB cx cz XX ZZ = nb at *
  generalize gAt cx cz hs XX ZZ = gh at *
  generalize gAt cx cz bs XX ZZ = gb at *
  obtain ⟨hv, hhv⟩ : ∃ v : Int, (if nb = true then gh else 0) = v := ⟨_, rfl⟩
  obtain ⟨bw, hbw⟩ : ∃ v : Int, (if nb = true then gb else 0) = v := ⟨_, rfl⟩
  rw [hhv, hbw] at hgr
  have Hhv : Hid (nb = true → hv = gh ∧ bw = gb) := fun e => by subst e; exact ⟨hhv.symm, hbw.symm⟩
  have Hnv : Hid (nb = false → hv = 0 ∧ bw = 0) := fun e => by subst e; exact ⟨hhv.symm, hbw.symm⟩
  clear hhv hbw
  refine hgr.mono ?_
  clear hgr k0 k1
  rintro _ W8 ⟨rfl, hb8⟩
  have HB8 : Hid (Below w.heap.size w W8) := HB7.out.trans (hb8.mono HB7.out.size)
  have hV8 : W8.heap[vb]? = some (.cells #[.int .i64 0, .int .i64 XX, .int .i64 ZZ, .int .i64 0, .int .i64 lt] 77 (0, 0)) := (hb8.block _ (Array.getElem?_eq_some_iff.1 HV7.out).1).trans HV7.out
  have HO8 : Hid (W8.heap[w.heap.size + 1]? = some (.cells #[.int .i64 0, .int .i64 0, .int .i64 0, .int .i64 0, .int .i64 0] 77 (0, 0))) := (hb8.block _ (Array.getElem?_eq_some_iff.1 HO7.out).1).trans HO7.out
  clear hb8 HB7 HV7 HO7 HX7
  have c3 : W8.cell? ⟨vb, 3, none⟩ = some (.int .i64 0) := (cell_of_row W8 vb 3 _ 77 (0, 0) hV8).trans rfl
  have f3 : W8.frozen? ⟨vb, 3, none⟩ = false := frozen_of_row W8 vb 3 _ 77 hV8
  go_upto_region 18 with fail
  have HV9 : Hid ((W8.setCell ⟨vb, 3, none⟩ (.int .i64 hv)).heap[vb]? = some (.cells #[.int .i64 0, .int .i64 XX, .int .i64 ZZ, .int .i64 hv, .int .i64 lt] 77 (0, 0))) := by show _ = _; rw [heap_setCell_same W8 vb 3 _ 77 _ hV8]; rfl
  have HO9 : Hid ((W8.setCell ⟨vb, 3, none⟩ (.int .i64 hv)).heap[w.heap.size + 1]? = some (.cells #[.int .i64 0, .int .i64 0, .int .i64 0, .int .i64 0, .int .i64 0] 77 (0, 0))) := (Below.heap_setCell W8 ⟨vb, 3, none⟩ _ (w.heap.size + 1) hn1.out).trans HO8.out
  have HB9 : Hid (Below w.heap.size w (W8.setCell ⟨vb, 3, none⟩ (.int .i64 hv))) := HB8.out.setCell (p := ⟨vb, 3, none⟩) (by have := Hvb.out; show w.heap.size ≤ vb; omega) _
  generalize W8.setCell ⟨vb, 3, none⟩ (.int .i64 hv) = W9 at *
  clear c3 f3 hV8 HO8 HB8 W8
  have c0 : W9.cell? ⟨vb, 0, none⟩ = some (.int .i64 0) := (cell_of_row W9 vb 0 _ 77 (0, 0) HV9.out).trans rfl
  have c1 : W9.cell? ⟨vb, 1, none⟩ = some (.int .i64 XX) := (cell_of_row W9 vb 1 _ 77 (0, 0) HV9.out).trans rfl
  have c2 : W9.cell? ⟨vb, 2, none⟩ = some (.int .i64 ZZ) := (cell_of_row W9 vb 2 _ 77 (0, 0) HV9.out).trans rfl
  have c3 : W9.cell? ⟨vb, 3, none⟩ = some (.int .i64 hv) := (cell_of_row W9 vb 3 _ 77 (0, 0) HV9.out).trans rfl
  have c4 : W9.cell? ⟨vb, 4, none⟩ = some (.int .i64 lt) := (cell_of_row W9 vb 4 _ 77 (0, 0) HV9.out).trans rfl
  have o0 : W9.cell? ⟨w.heap.size + 1, 0, none⟩ = some (.int .i64 0) := (cell_of_row W9 (w.heap.size + 1) 0 _ 77 (0, 0) HO9.out).trans rfl
  have f0 : W9.frozen? ⟨w.heap.size + 1, 0, none⟩ = false := frozen_of_row W9 (w.heap.size + 1) 0 _ 77 HO9.out
  have o1 : W9.cell? ⟨w.heap.size + 1, 1, none⟩ = some (.int .i64 0) := (cell_of_row W9 (w.heap.size + 1) 1 _ 77 (0, 0) HO9.out).trans rfl
  have f1 : W9.frozen? ⟨w.heap.size + 1, 1, none⟩ = false := frozen_of_row W9 (w.heap.size + 1) 1 _ 77 HO9.out
  have o2 : W9.cell? ⟨w.heap.size + 1, 2, none⟩ = some (.int .i64 0) := (cell_of_row W9 (w.heap.size + 1) 2 _ 77 (0, 0) HO9.out).trans rfl
  have f2 : W9.frozen? ⟨w.heap.size + 1, 2, none⟩ = false := frozen_of_row W9 (w.heap.size + 1) 2 _ 77 HO9.out
  have o3 : W9.cell? ⟨w.heap.size + 1, 3, none⟩ = some (.int .i64 0) := (cell_of_row W9 (w.heap.size + 1) 3 _ 77 (0, 0) HO9.out).trans rfl
  have f3 : W9.frozen? ⟨w.heap.size + 1, 3, none⟩ = false := frozen_of_row W9 (w.heap.size + 1) 3 _ 77 HO9.out
  have o4 : W9.cell? ⟨w.heap.size + 1, 4, none⟩ = some (.int .i64 0) := (cell_of_row W9 (w.heap.size + 1) 4 _ 77 (0, 0) HO9.out).trans rfl
  have f4 : W9.frozen? ⟨w.heap.size + 1, 4, none⟩ = false := frozen_of_row W9 (w.heap.size + 1) 4 _ 77 HO9.out
  have Hyes : Hid ((nb && standB 0 h gh gb) = nb → Post (.returned (.tuple #[.agg #[.int .i64 0, .int .i64 XX, .int .i64 ZZ, .int .i64 hv, .int .i64 lt], .bool nb])) (set5 W9 (w.heap.size + 1) (.int .i64 0) (.int .i64 XX) (.int .i64 ZZ) (.int .i64 hv) (.int .i64 lt))) := fun e => HP.out _ _ ⟨set5_below HB9.out _ _ _ _ _, 0, XX, ZZ, hv, lt, by
      rw [Hth2.out, e]
      rcases nb with _ | _ <;> rfl, fun t ht => by
      rw [Hth2.out, e] at ht
      rcases nb with _ | _
      · cases ht
      · injection ht with ht
        rw [← ht]
        exact ⟨rfl, rfl, rfl, (Hhv.out rfl).1, rfl⟩⟩
  have Hno : Hid ((nb && standB 0 h gh gb) = false → Post (.returned (.tuple #[.agg #[.int .i64 0, .int .i64 0, .int .i64 0, .int .i64 0, .int .i64 0], .bool false])) (set5 W9 (w.heap.size + 1) (.int .i64 0) (.int .i64 0) (.int .i64 0) (.int .i64 0) (.int .i64 0))) := fun e => HP.out _ _ ⟨set5_below HB9.out _ _ _ _ _, 0, 0, 0, 0, 0, by rw [Hth2.out, e]; rfl, fun t ht => by rw [Hth2.out, e] at ht; cases ht⟩
  have HS5 : Hid (∀ v0 v1 v2 v3 v4 : Value, (set5 W9 (w.heap.size + 1) v0 v1 v2 v3 v4).heap[w.heap.size + 1]? = some (.cells #[v0, v1, v2, v3, v4] 77 (0, 0))) := fun v0 v1 v2 v3 v4 => set5_row HO9.out v0 v1 v2 v3 v4
  have Hst : Hid (∀ g1 g2 : Int, standB 0 h g1 g2 = true) := fun _ _ => rfl
  clear HP Hth2 HO9 HB9 HV9
  have R := Hyes.out (by rw [Hst.out, Bool.and_true])
  clear Hyes Hno Hst Hhv Hnv
  go_wp2
  exact bodyPost_ret (results_row_tmp (p := 14) (u := 15) (ty := 77) rfl _ _ (w.heap.size + 1) 77 _ (0, 0) _ rfl (HS5.out _ _ _ _ _) Tryz.underlying77 rfl (by kernel_rfl)) rfl R
set_option maxRecDepth 100000 in
set_option maxHeartbeats 4000000 in
theorem rthing1_c (S : Nat) (cx cz ox oz : Int) (a a' : Option Addr) (c c' : Nat) (hs bs : List (List Int)) (w : World) (hS : S < 18446744073709551616) (hx : -10000000000000 ≤ ox ∧ ox ≤ 10000000000000) (hz : -10000000000000 ≤ oz ∧ oz ≤ 10000000000000) (hcx : -1000000000000000 ≤ cx ∧ cx ≤ 1000000000000000) (hcz : -1000000000000000 ≤ cz ∧ cz ≤ 1000000000000000)
    (hH : Rows2 w a hs) (hB : Rows2 w a' bs) (oH : okG 128 hs) (oB : okG 4 bs) :
    Calls Tryz.prog 49 #[.int .u64 S, .agg #[.int .i64 cx, .int .i64 cz], .slice a 9 c, .slice a' 9 c', .int .i64 1, .int .i64 ox, .int .i64 oz] w (RtSay (thingN S 1 cx cz hs bs ox oz) w) := by
  have hTe : thingN S 1 cx cz hs bs ox oz = thingH 1 (R.hashN S 42 ox 0 oz) cx cz hs bs ox oz := rfl
  rw [hTe]
  clear hTe
  have hlt := R.hashN_lt S 42 ox 0 oz
  have hh := fun w => R.rhash_any S 42 ox 0 oz w hS
  generalize R.hashN S 42 ox 0 oz = h at *
  have hb := fun w => R.rbelow_any h 100 w hlt (by omega)
  obtain ⟨Post, hPost⟩ : ∃ Post : Ending → World → Prop, Post = RtSay (thingH 1 h cx cz hs bs ox oz) w := ⟨_, rfl⟩
  rw [← hPost]
  have HP : Hid (∀ e w', RtSay (thingH 1 h cx cz hs bs ox oz) w e w' → Post e w') := fun e w' h => by rw [hPost]; exact h
  clear hPost
  have Hbv : Hid (∀ b : Int, R.belowN h 100 = b → ∀ t, thingH 1 h cx cz hs bs ox oz = some t → b < 20) := fun b e t ht => by rw [← e]; exact (thing_is ht).2.1
  have Hth : Hid (thingH 1 h cx cz hs bs ox oz = if (decide (R.belowN h 100 < 20) && nearB cx cz (colX 1 h ox) (colZ 1 h oz) && standB 1 h (gAt cx cz hs (colX 1 h ox) (colZ 1 h oz)) (gAt cx cz bs (colX 1 h ox) (colZ 1 h oz))) = true then some ⟨1, colX 1 h ox, colZ 1 h oz, gAt cx cz hs (colX 1 h ox) (colZ 1 h oz), lenT h⟩ else none) := rfl
  have HHs : Hid (Rows2 w a hs ∧ okG 128 hs) := ⟨hH, oH⟩
  have HBs : Hid (Rows2 w a' bs ∧ okG 4 bs) := ⟨hB, oB⟩
  obtain ⟨bv, hbv⟩ : ∃ b : Int, R.belowN h 100 = b := ⟨_, rfl⟩
  rw [hbv] at hb Hth
  have Hb : Hid (∀ w, Calls Tryz.prog 69 #[.int .u64 (h : Int), .int .i64 100] w fun e w' => e = .returned (.int .i64 bv) ∧ Below w.heap.size w w') := fun w => (hb w).mono fun _ _ ⟨h1, e⟩ => ⟨h1, by rw [e]; exact Below.refl _ _⟩
  clear hb hbv Hbv hH hB oH oB
  obtain ⟨x0, x1⟩ := hx
  obtain ⟨z0, z1⟩ := hz
  go_enter Tryz.func49, Tryz.ntmps49
  go_wp2_with fail
  refine (hh _).mono ?_
  clear hh
  rintro _ w1 ⟨rfl, hb1⟩
  obtain ⟨hX1, hO1, _, hS1, hM1, hbw⟩ := new5 w _ _ _ _ _ hb1
  have HX1 : Hid (w1.heap[w.heap.size]? = some (.cells #[.int .i64 cx, .int .i64 cz] 24 (0, 0))) := hX1
  have HO1 : Hid (w1.heap[w.heap.size + 1]? = some (.cells #[.int .i64 0, .int .i64 0, .int .i64 0, .int .i64 0, .int .i64 0] 77 (0, 0))) := hO1
  have HS1 : Hid (w1.heap[w.heap.size + 1 + 1 + 1]? = some (.cells #[.int .i64 32, .int .i64 16, .int .i64 8] 107 (0, 0))) := hS1
  have HB1 : Hid (Below w.heap.size w w1) := hbw
  have hsome := since_some w1
  have k0 := fun s : Since w1 => Since.cell ((cell_of_row w1 (w.heap.size + 1 + 1 + 1 + 1) 1 _ 107 (0, 0) hM1).trans rfl) s
  clear hb1 hX1 hO1 hS1 hbw
  go_wp2_with fail
  refine wp_region_since (by kernel_rfl) (by kernel_rfl) ?_
  repeat (go_big_quiet_step (first | (go_at_call 69; exact Calls.since (Hb.out _))))
  refine wpQuiet_nil ?_
  rintro _ ⟨s, rfl⟩
  have HB2 : Hid (Below w.heap.size w s.w) := HB1.out.trans (s.bel.mono HB1.out.size)
  have HX2 : Hid (s.w.heap[w.heap.size]? = some (.cells #[.int .i64 cx, .int .i64 cz] 24 (0, 0))) := (s.bel.block _ (Array.getElem?_eq_some_iff.1 HX1.out).1).trans HX1.out
  have HO2 : Hid (s.w.heap[w.heap.size + 1]? = some (.cells #[.int .i64 0, .int .i64 0, .int .i64 0, .int .i64 0, .int .i64 0] 77 (0, 0))) := (s.bel.block _ (Array.getElem?_eq_some_iff.1 HO1.out).1).trans HO1.out
  have HS2 : Hid (s.w.heap[w.heap.size + 1 + 1 + 1]? = some (.cells #[.int .i64 32, .int .i64 16, .int .i64 8] 107 (0, 0))) := (s.bel.block _ (Array.getElem?_eq_some_iff.1 HS1.out).1).trans HS1.out
  generalize s.w = W2 at *
  clear hsome k0 HB1 HX1 HO1 HS1 hM1
  by_cases hbv : bv < 20
  case neg =>
    have hbv' : 20 ≤ bv := by omega
    have c0 : W2.cell? ⟨w.heap.size + 1, 0, none⟩ = some (.int .i64 0) := (cell_of_row W2 (w.heap.size + 1) 0 _ 77 (0, 0) HO2.out).trans rfl
    have f0 : W2.frozen? ⟨w.heap.size + 1, 0, none⟩ = false := frozen_of_row W2 (w.heap.size + 1) 0 _ 77 HO2.out
    have c1 : W2.cell? ⟨w.heap.size + 1, 1, none⟩ = some (.int .i64 0) := (cell_of_row W2 (w.heap.size + 1) 1 _ 77 (0, 0) HO2.out).trans rfl
    have f1 : W2.frozen? ⟨w.heap.size + 1, 1, none⟩ = false := frozen_of_row W2 (w.heap.size + 1) 1 _ 77 HO2.out
    have c2 : W2.cell? ⟨w.heap.size + 1, 2, none⟩ = some (.int .i64 0) := (cell_of_row W2 (w.heap.size + 1) 2 _ 77 (0, 0) HO2.out).trans rfl
    have f2 : W2.frozen? ⟨w.heap.size + 1, 2, none⟩ = false := frozen_of_row W2 (w.heap.size + 1) 2 _ 77 HO2.out
    have c3 : W2.cell? ⟨w.heap.size + 1, 3, none⟩ = some (.int .i64 0) := (cell_of_row W2 (w.heap.size + 1) 3 _ 77 (0, 0) HO2.out).trans rfl
    have f3 : W2.frozen? ⟨w.heap.size + 1, 3, none⟩ = false := frozen_of_row W2 (w.heap.size + 1) 3 _ 77 HO2.out
    have c4 : W2.cell? ⟨w.heap.size + 1, 4, none⟩ = some (.int .i64 0) := (cell_of_row W2 (w.heap.size + 1) 4 _ 77 (0, 0) HO2.out).trans rfl
    have f4 : W2.frozen? ⟨w.heap.size + 1, 4, none⟩ = false := frozen_of_row W2 (w.heap.size + 1) 4 _ 77 HO2.out
    have R := HP.out _ _ (show RtSay (thingH 1 h cx cz hs bs ox oz) w (.returned (.tuple #[.agg #[.int .i64 0, .int .i64 0, .int .i64 0, .int .i64 0, .int .i64 0], .bool false])) (set5 W2 (w.heap.size + 1) (.int .i64 0) (.int .i64 0) (.int .i64 0) (.int .i64 0) (.int .i64 0)) from by
      have hn : thingH 1 h cx cz hs bs ox oz = none := by rw [Hth.out, decide_eq_false hbv]; rfl
      rw [hn]
      exact ⟨set5_below HB2.out _ _ _ _ _, 0, 0, 0, 0, 0, rfl, fun t ht => by cases ht⟩)
    have HS5 : Hid ((set5 W2 (w.heap.size + 1) (.int .i64 0) (.int .i64 0) (.int .i64 0) (.int .i64 0) (.int .i64 0)).heap[w.heap.size + 1]? = some (.cells #[.int .i64 0, .int .i64 0, .int .i64 0, .int .i64 0, .int .i64 0] 77 (0, 0))) := set5_row HO2.out _ _ _ _ _
    clear HP Hth HHs HBs HB2 HX2 HO2 HS2 Hb
    go_wp2
    exact bodyPost_ret (results_row_tmp (p := 14) (u := 15) (ty := 77) rfl _ _ (w.heap.size + 1) 77 _ (0, 0) _ rfl HS5.out Tryz.underlying77 rfl (by kernel_rfl)) rfl R
  have hbv' : ¬ 20 ≤ bv := by omega
  have Hth2 : Hid (thingH 1 h cx cz hs bs ox oz = if (nearB cx cz (colX 1 h ox) (colZ 1 h oz) && standB 1 h (gAt cx cz hs (colX 1 h ox) (colZ 1 h oz)) (gAt cx cz bs (colX 1 h ox) (colZ 1 h oz))) = true then some ⟨1, colX 1 h ox, colZ 1 h oz, gAt cx cz hs (colX 1 h ox) (colZ 1 h oz), lenT h⟩ else none) := by show _ = _; rw [Hth.out, decide_eq_true hbv, Bool.true_and]
  clear Hth Hb hbv
  have e4 : bits .and .i64 ((h : Int) / 65536) 3 = ((h / 65536 % 4 : Nat) : Int) := by rw [and3]; omega
  have HL : Hid (lenT h = 4 + ((h / 65536 % 4 : Nat) : Int)) := rfl
  have b4 : h / 65536 % 4 < 4 := Nat.mod_lt _ (by omega)
  generalize h / 65536 % 4 = M4 at *
  obtain ⟨lt, hlt4⟩ : ∃ l : Int, (4 : Int) + (M4 : Int) = l := ⟨_, rfl⟩
  have wl : IntKind.i64.wrap (4 + (M4 : Int)) = lt := by rw [IntKind.wrap_i64]; omega
  rw [hlt4] at HL
  have wx : IntKind.i64.wrap (16 * ox) = 16 * ox := by rw [IntKind.wrap_i64]; omega
  have wz : IntKind.i64.wrap (16 * oz) = 16 * oz := by rw [IntKind.wrap_i64]; omega
  have hcw2 : IntKind.i64.wrap ((h : Int) / 65536) = (h : Int) / 65536 := wrap_in _ (shr_in h 65536 (by omega) hlt).1 (shr_in h 65536 (by omega) hlt).2
  clear hlt4
  go_wp2_with fail
  refine region_L (fun w' => Below W2.heap.size W2 w') 19 (by kernel_rfl) ?_
  have hHeld : Below W2.heap.size W2 W2.drew := (Below.refl _ _).drew
  have HB3 : Hid (Below w.heap.size w W2.drew) := HB2.out.drew
  have HX3 : Hid (W2.drew.heap[w.heap.size]? = some (.cells #[.int .i64 cx, .int .i64 cz] 24 (0, 0))) := HX2.out
  have HO3 : Hid (W2.drew.heap[w.heap.size + 1]? = some (.cells #[.int .i64 0, .int .i64 0, .int .i64 0, .int .i64 0, .int .i64 0] 77 (0, 0))) := HO2.out
  have k0 : ∀ s : Sub (fun w' => Below W2.heap.size W2 w'), s.w.cell? ⟨w.heap.size + 1 + 1 + 1, 1, none⟩ = some (.int .i64 16) := fun s => cell_below ((cell_of_row W2 (w.heap.size + 1 + 1 + 1) 1 _ 107 (0, 0) HS2.out).trans rfl) s.ok
  have hne : Nonempty (Sub (fun w' => Below W2.heap.size W2 w')) := ⟨⟨_, hHeld⟩⟩
  clear HB2 HX2 HO2
  generalize W2.drew = W3 at *
  refine take_L (i := 0) rfl (by kernel_rfl) (by kernel_rfl) (by kernel_rfl) (by kernel_rfl) (fun _ _ _ _ h => h) (by exact hHeld) (fun K hK => ?_)
  go_simp
  refine hK _ ?_
  clear hK K
  refine take_L (i := 1) rfl (by kernel_rfl) (by kernel_rfl) (by kernel_rfl) (by kernel_rfl) (fun _ _ _ _ h => h) (by exact hHeld) (fun K hK => ?_)
  go_simp
  refine hK _ ?_
  clear hK K
  refine take_L (i := 2) rfl (by kernel_rfl) (by kernel_rfl) (by kernel_rfl) (by kernel_rfl) (fun _ _ _ _ h => h) (by exact hHeld) (fun K hK => ?_)
  go_simp
  refine hK _ ?_
  clear hK K
  refine take_L (i := 3) rfl (by kernel_rfl) (by kernel_rfl) (by kernel_rfl) (by kernel_rfl) (fun _ _ _ _ h => h) (by exact hHeld) (fun K hK => ?_)
  go_simp
  refine hK _ ?_
  clear hK K
  refine take_L (i := 4) rfl (by kernel_rfl) (by kernel_rfl) (by kernel_rfl) (by kernel_rfl) (fun _ _ _ _ h => h) (by exact hHeld) (fun K hK => ?_)
  go_simp
  refine hK _ ?_
  clear hK K
  refine take_L (i := 5) rfl (by kernel_rfl) (by kernel_rfl) (by kernel_rfl) (by kernel_rfl) (fun _ _ _ _ h => h) (by exact hHeld) (fun K hK => ?_)
  go_simp
  refine hK _ ?_
  clear hK K
  refine take_L (i := 6) rfl (by kernel_rfl) (by kernel_rfl) (by kernel_rfl) (by kernel_rfl) (fun _ _ _ _ h => h) (by exact hHeld) (fun K hK => ?_)
  go_simp
  refine hK _ ?_
  clear hK K
  refine take_L (i := 7) rfl (by kernel_rfl) (by kernel_rfl) (by kernel_rfl) (by kernel_rfl) (fun _ _ _ _ h => h) (by exact hHeld) (fun K hK => ?_)
  go_simp
  refine hK _ ?_
  clear hK K
  refine take_L (i := 8) rfl (by kernel_rfl) (by kernel_rfl) (by kernel_rfl) (by kernel_rfl) (fun _ _ _ _ h => h) (by exact hHeld) (fun K hK => ?_)
  go_simp
  refine hK _ ?_
  clear hK K
  refine take_L (i := 9) rfl (by kernel_rfl) (by kernel_rfl) (by kernel_rfl) (by kernel_rfl) (fun _ _ _ _ h => h) (by exact hHeld) (fun K hK => ?_)
  go_simp
  refine hK _ ?_
  clear hK K
  refine take_L (i := 10) rfl (by kernel_rfl) (by kernel_rfl) (by kernel_rfl) (by kernel_rfl) (fun _ _ _ _ h => h) (by exact hHeld) (fun K hK => ?_)
  go_simp
  refine hK _ ?_
  clear hK K
  refine take_L (i := 11) rfl (by kernel_rfl) (by kernel_rfl) (by kernel_rfl) (by kernel_rfl) (fun _ _ _ _ h => h) (by exact hHeld) (fun K hK => ?_)
  go_simp
  refine hK _ ?_
  clear hK K
  refine take_L (i := 12) rfl (by kernel_rfl) (by kernel_rfl) (by kernel_rfl) (by kernel_rfl) (fun _ _ _ _ h => h) (by exact hHeld) (fun K hK => ?_)
  go_simp
  refine hK _ ?_
  clear hK K
  refine take_L (i := 13) rfl (by kernel_rfl) (by kernel_rfl) (by kernel_rfl) (by kernel_rfl) (fun _ _ _ _ h => h) (by exact hHeld) (fun K hK => ?_)
  go_simp
  refine hK _ ?_
  clear hK K
  refine take_L (i := 14) rfl (by kernel_rfl) (by kernel_rfl) (by kernel_rfl) (by kernel_rfl) (fun _ _ _ _ h => h) (by exact hHeld) (fun K hK => ?_)
  go_simp
  refine hK _ ?_
  clear hK K
  refine take_L (i := 15) rfl (by kernel_rfl) (by kernel_rfl) (by kernel_rfl) (by kernel_rfl) (fun _ _ _ _ h => h) (by exact hHeld) (fun K hK => ?_)
  go_simp
  refine hK _ ?_
  clear hK K
  refine take_L (i := 16) rfl (by kernel_rfl) (by kernel_rfl) (by kernel_rfl) (by kernel_rfl) (fun _ _ _ _ h => h) (by exact hHeld) (fun K hK => ?_)
  go_simp
  refine hK _ ?_
  clear hK K
  refine one_L (i := 17) (by kernel_rfl) rfl (fun K hK => ?_)
  go_simp
  have Hv2 : Hid (W2.heap.size ≤ W3.heap.size) := hHeld.size
  replace hHeld : Below W2.heap.size W2 (W3.alloc (.cells #[.int .i64 0, .int .i64 0, .int .i64 0, .int .i64 0, .int .i64 0] 77)) := hHeld.alloc hHeld.size _
  refine hK.out _ _ (fun _ => hHeld) ?_
  clear hK K k0 hne wx wz wl hcw2 e4
  have HB4 : Hid (Below w.heap.size w (W3.alloc (.cells #[.int .i64 0, .int .i64 0, .int .i64 0, .int .i64 0, .int .i64 0] 77))) := HB3.out.alloc HB3.out.size _
  have HX4 : Hid ((W3.alloc (.cells #[.int .i64 0, .int .i64 0, .int .i64 0, .int .i64 0, .int .i64 0] 77)).heap[w.heap.size]? = some (.cells #[.int .i64 cx, .int .i64 cz] 24 (0, 0))) := (heap_alloc_old W3 _ (Array.getElem?_eq_some_iff.1 HX3.out).1).trans HX3.out
  have HO4 : Hid ((W3.alloc (.cells #[.int .i64 0, .int .i64 0, .int .i64 0, .int .i64 0, .int .i64 0] 77)).heap[w.heap.size + 1]? = some (.cells #[.int .i64 0, .int .i64 0, .int .i64 0, .int .i64 0, .int .i64 0] 77 (0, 0))) := (heap_alloc_old W3 _ (Array.getElem?_eq_some_iff.1 HO3.out).1).trans HO3.out
  have HV4 : Hid ((W3.alloc (.cells #[.int .i64 0, .int .i64 0, .int .i64 0, .int .i64 0, .int .i64 0] 77)).heap[W3.heap.size]? = some (.cells #[.int .i64 0, .int .i64 0, .int .i64 0, .int .i64 0, .int .i64 0] 77 (0, 0))) := heap_alloc_new W3 _
  have Hvb : Hid (w.heap.size + 1 < W3.heap.size) := (Array.getElem?_eq_some_iff.1 HO3.out).1
  generalize W3.alloc _ = W4 at *
  generalize W3.heap.size = vb at *
  clear HB3 HX3 HO3 W3
  have c0 : W4.cell? ⟨vb, 0, none⟩ = some (.int .i64 0) := (cell_of_row W4 vb 0 _ 77 (0, 0) HV4.out).trans rfl
  have f0 : W4.frozen? ⟨vb, 0, none⟩ = false := frozen_of_row W4 vb 0 _ 77 HV4.out
  have c1 : W4.cell? ⟨vb, 1, none⟩ = some (.int .i64 0) := (cell_of_row W4 vb 1 _ 77 (0, 0) HV4.out).trans rfl
  have f1 : W4.frozen? ⟨vb, 1, none⟩ = false := frozen_of_row W4 vb 1 _ 77 HV4.out
  have c2 : W4.cell? ⟨vb, 2, none⟩ = some (.int .i64 0) := (cell_of_row W4 vb 2 _ 77 (0, 0) HV4.out).trans rfl
  have f2 : W4.frozen? ⟨vb, 2, none⟩ = false := frozen_of_row W4 vb 2 _ 77 HV4.out
  have c3 : W4.cell? ⟨vb, 3, none⟩ = some (.int .i64 0) := (cell_of_row W4 vb 3 _ 77 (0, 0) HV4.out).trans rfl
  have f3 : W4.frozen? ⟨vb, 3, none⟩ = false := frozen_of_row W4 vb 3 _ 77 HV4.out
  have c4 : W4.cell? ⟨vb, 4, none⟩ = some (.int .i64 0) := (cell_of_row W4 vb 4 _ 77 (0, 0) HV4.out).trans rfl
  have f4 : W4.frozen? ⟨vb, 4, none⟩ = false := frozen_of_row W4 vb 4 _ 77 HV4.out
  refine one_L (i := 18) (by kernel_rfl) rfl (fun K hK => ?_)
  go_simp
  refine hK.out _ _ (fun _ => set5_below hHeld _ _ _ _ _ Hv2.out) ?_
  clear hK K
  refine done_L (by kernel_rfl) ?_ _
  have HV5 : Hid ((set5 W4 vb (.int .i64 1) (.int .i64 (16 * ox)) (.int .i64 (16 * oz)) (.int .i64 0) (.int .i64 lt)).heap[vb]? = some (.cells #[.int .i64 1, .int .i64 (16 * ox), .int .i64 (16 * oz), .int .i64 0, .int .i64 lt] 77 (0, 0))) := set5_row HV4.out _ _ _ _ _
  have HX5 : Hid ((set5 W4 vb (.int .i64 1) (.int .i64 (16 * ox)) (.int .i64 (16 * oz)) (.int .i64 0) (.int .i64 lt)).heap[w.heap.size]? = some (.cells #[.int .i64 cx, .int .i64 cz] 24 (0, 0))) := (set5_other (by have := Hvb.out; omega) _ _ _ _ _).trans HX4.out
  have HO5 : Hid ((set5 W4 vb (.int .i64 1) (.int .i64 (16 * ox)) (.int .i64 (16 * oz)) (.int .i64 0) (.int .i64 lt)).heap[w.heap.size + 1]? = some (.cells #[.int .i64 0, .int .i64 0, .int .i64 0, .int .i64 0, .int .i64 0] 77 (0, 0))) := (set5_other (by have := Hvb.out; omega) _ _ _ _ _).trans HO4.out
  have HB5 : Hid (Below w.heap.size w (set5 W4 vb (.int .i64 1) (.int .i64 (16 * ox)) (.int .i64 (16 * oz)) (.int .i64 0) (.int .i64 lt))) := set5_below HB4.out _ _ _ _ _ (by have := Hvb.out; omega)
  unfold set5 at HV5 HX5 HO5 HB5
  generalize ((((W4.setCell ⟨vb, 0, none⟩ (.int .i64 1)).setCell ⟨vb, 1, none⟩ (.int .i64 (16 * ox))).setCell ⟨vb, 2, none⟩ (.int .i64 (16 * oz))).setCell ⟨vb, 3, none⟩ (.int .i64 0)).setCell ⟨vb, 4, none⟩ (.int .i64 lt) = W5 at *
  clear c0 c1 c2 c3 c4 f0 f1 f2 f3 f4 HV4 HX4 HO4 HB4 hHeld Hv2 HS2 W4
  have c0 : W5.cell? ⟨vb, 0, none⟩ = some (.int .i64 1) := (cell_of_row W5 vb 0 _ 77 (0, 0) HV5.out).trans rfl
  have f0 : W5.frozen? ⟨vb, 0, none⟩ = false := frozen_of_row W5 vb 0 _ 77 HV5.out
  have c1 : W5.cell? ⟨vb, 1, none⟩ = some (.int .i64 (16 * ox)) := (cell_of_row W5 vb 1 _ 77 (0, 0) HV5.out).trans rfl
  have f1 : W5.frozen? ⟨vb, 1, none⟩ = false := frozen_of_row W5 vb 1 _ 77 HV5.out
  have c2 : W5.cell? ⟨vb, 2, none⟩ = some (.int .i64 (16 * oz)) := (cell_of_row W5 vb 2 _ 77 (0, 0) HV5.out).trans rfl
  have f2 : W5.frozen? ⟨vb, 2, none⟩ = false := frozen_of_row W5 vb 2 _ 77 HV5.out
  have c3 : W5.cell? ⟨vb, 3, none⟩ = some (.int .i64 0) := (cell_of_row W5 vb 3 _ 77 (0, 0) HV5.out).trans rfl
  have f3 : W5.frozen? ⟨vb, 3, none⟩ = false := frozen_of_row W5 vb 3 _ 77 HV5.out
  have c4 : W5.cell? ⟨vb, 4, none⟩ = some (.int .i64 lt) := (cell_of_row W5 vb 4 _ 77 (0, 0) HV5.out).trans rfl
  have f4 : W5.frozen? ⟨vb, 4, none⟩ = false := frozen_of_row W5 vb 4 _ 77 HV5.out
  have e1 : bits .and .i64 ((h : Int) / 256) 15 = ((h / 256 % 16 : Nat) : Int) := by rw [and15]; omega
  have e2 : bits .and .i64 ((h : Int) / 4096) 15 = ((h / 4096 % 16 : Nat) : Int) := by rw [and15]; omega
  have HcX : Hid (colX 1 h ox = 16 * ox + ((h / 256 % 16 : Nat) : Int)) := rfl
  have HcZ : Hid (colZ 1 h oz = 16 * oz + ((h / 4096 % 16 : Nat) : Int)) := rfl
  have b1 : h / 256 % 16 < 16 := Nat.mod_lt _ (by omega)
  have b2 : h / 4096 % 16 < 16 := Nat.mod_lt _ (by omega)
  generalize h / 256 % 16 = M1 at *
  generalize h / 4096 % 16 = M2 at *
  have k0 : W5.cell? ⟨w.heap.size, 0, none⟩ = some (.int .i64 cx) := (cell_of_row W5 w.heap.size 0 _ 24 (0, 0) HX5.out).trans rfl
  have k1 : W5.cell? ⟨w.heap.size, 1, none⟩ = some (.int .i64 cz) := (cell_of_row W5 w.heap.size 1 _ 24 (0, 0) HX5.out).trans rfl
  have hnv : ¬ w.heap.size = vb := by have := Hvb.out; omega
  have hn0 : Hid (w.heap.size ≠ vb) := hnv
  have hn1 : Hid (w.heap.size + 1 ≠ vb) := by show _ ≠ _; have := Hvb.out; omega
  go_upto_region 16 with fail
  have HV7 : Hid (((W5.setCell ⟨vb, 1, none⟩ (.int .i64 (16 * ox + (M1 : Int)))).setCell ⟨vb, 2, none⟩ (.int .i64 (16 * oz + (M2 : Int)))).heap[vb]? = some (.cells #[.int .i64 1, .int .i64 (16 * ox + (M1 : Int)), .int .i64 (16 * oz + (M2 : Int)), .int .i64 0, .int .i64 lt] 77 (0, 0))) := by show _ = _; rw [heap_setCell_same _ vb 2 _ 77 _ (heap_setCell_same W5 vb 1 _ 77 _ HV5.out)]; rfl
  have HX7 : Hid (((W5.setCell ⟨vb, 1, none⟩ (.int .i64 (16 * ox + (M1 : Int)))).setCell ⟨vb, 2, none⟩ (.int .i64 (16 * oz + (M2 : Int)))).heap[w.heap.size]? = some (.cells #[.int .i64 cx, .int .i64 cz] 24 (0, 0))) := by show _ = _; rw [Below.heap_setCell _ ⟨vb, 2, none⟩ _ w.heap.size hn0.out, Below.heap_setCell _ ⟨vb, 1, none⟩ _ w.heap.size hn0.out]; exact HX5.out
  have HO7 : Hid (((W5.setCell ⟨vb, 1, none⟩ (.int .i64 (16 * ox + (M1 : Int)))).setCell ⟨vb, 2, none⟩ (.int .i64 (16 * oz + (M2 : Int)))).heap[w.heap.size + 1]? = some (.cells #[.int .i64 0, .int .i64 0, .int .i64 0, .int .i64 0, .int .i64 0] 77 (0, 0))) := by show _ = _; rw [Below.heap_setCell _ ⟨vb, 2, none⟩ _ (w.heap.size + 1) hn1.out, Below.heap_setCell _ ⟨vb, 1, none⟩ _ (w.heap.size + 1) hn1.out]; exact HO5.out
  have HB7 : Hid (Below w.heap.size w ((W5.setCell ⟨vb, 1, none⟩ (.int .i64 (16 * ox + (M1 : Int)))).setCell ⟨vb, 2, none⟩ (.int .i64 (16 * oz + (M2 : Int))))) := (HB5.out.setCell (p := ⟨vb, 1, none⟩) (by have := Hvb.out; show w.heap.size ≤ vb; omega) _).setCell (p := ⟨vb, 2, none⟩) (by have := Hvb.out; show w.heap.size ≤ vb; omega) _
  generalize (W5.setCell ⟨vb, 1, none⟩ (.int .i64 (16 * ox + (M1 : Int)))).setCell ⟨vb, 2, none⟩ (.int .i64 (16 * oz + (M2 : Int))) = W7 at *
  clear HV5 HX5 HO5 HB5
  clear c0 c1 c2 c3 c4 f0 f1 f2 f3 f4 k0 k1 W5
  obtain ⟨XX, hXX⟩ : ∃ v : Int, 16 * ox + (M1 : Int) = v := ⟨_, rfl⟩
  obtain ⟨ZZ, hZZ⟩ : ∃ v : Int, 16 * oz + (M2 : Int) = v := ⟨_, rfl⟩
  rw [hXX, hZZ] at HV7
  have c1 : W7.cell? ⟨vb, 1, none⟩ = some (.int .i64 XX) := (cell_of_row W7 vb 1 _ 77 (0, 0) HV7.out).trans rfl
  have c2 : W7.cell? ⟨vb, 2, none⟩ = some (.int .i64 ZZ) := (cell_of_row W7 vb 2 _ 77 (0, 0) HV7.out).trans rfl
  have k0 : W7.cell? ⟨w.heap.size, 0, none⟩ = some (.int .i64 cx) := (cell_of_row W7 w.heap.size 0 _ 24 (0, 0) HX7.out).trans rfl
  have k1 : W7.cell? ⟨w.heap.size, 1, none⟩ = some (.int .i64 cz) := (cell_of_row W7 w.heap.size 1 _ 24 (0, 0) HX7.out).trans rfl
  go_wp2_with fail
  clear c1 c2
  have hgr := rground_c cx cz XX ZZ a a' c c' hs bs W7 (by omega) (by omega) hcx hcz (HHs.out.1.on HB7.out) (HBs.out.1.on HB7.out) HHs.out.2 HBs.out.2
  have hge : toldG cx cz hs bs XX ZZ = .returned (.tuple #[.int .i64 (if nearB cx cz XX ZZ then gAt cx cz hs XX ZZ else 0), .int .i64 (if nearB cx cz XX ZZ then gAt cx cz bs XX ZZ else 0), .bool (nearB cx cz XX ZZ)]) := rfl
  rw [hge] at hgr
  clear hge
  rw [show 16 * ox + (M1 : Int) = XX from hXX] at HcX
  rw [show 16 * oz + (M2 : Int) = ZZ from hZZ] at HcZ
  rw [HcX.out, HcZ.out, HL.out] at Hth2
  clear HHs HBs HcX HcZ HL
  generalize nearB cx cz XX ZZ = nb at *
  generalize gAt cx cz hs XX ZZ = gh at *
  generalize gAt cx cz bs XX ZZ = gb at *
  obtain ⟨hv, hhv⟩ : ∃ v : Int, (if nb = true then gh else 0) = v := ⟨_, rfl⟩
  obtain ⟨bw, hbw⟩ : ∃ v : Int, (if nb = true then gb else 0) = v := ⟨_, rfl⟩
  rw [hhv, hbw] at hgr
  have Hhv : Hid (nb = true → hv = gh ∧ bw = gb) := fun e => by subst e; exact ⟨hhv.symm, hbw.symm⟩
  have Hnv : Hid (nb = false → hv = 0 ∧ bw = 0) := fun e => by subst e; exact ⟨hhv.symm, hbw.symm⟩
  clear hhv hbw
  refine hgr.mono ?_
  clear hgr k0 k1
  rintro _ W8 ⟨rfl, hb8⟩
  have HB8 : Hid (Below w.heap.size w W8) := HB7.out.trans (hb8.mono HB7.out.size)
  have hV8 : W8.heap[vb]? = some (.cells #[.int .i64 1, .int .i64 XX, .int .i64 ZZ, .int .i64 0, .int .i64 lt] 77 (0, 0)) := (hb8.block _ (Array.getElem?_eq_some_iff.1 HV7.out).1).trans HV7.out
  have HO8 : Hid (W8.heap[w.heap.size + 1]? = some (.cells #[.int .i64 0, .int .i64 0, .int .i64 0, .int .i64 0, .int .i64 0] 77 (0, 0))) := (hb8.block _ (Array.getElem?_eq_some_iff.1 HO7.out).1).trans HO7.out
  clear hb8 HB7 HV7 HO7 HX7
  have c3 : W8.cell? ⟨vb, 3, none⟩ = some (.int .i64 0) := (cell_of_row W8 vb 3 _ 77 (0, 0) hV8).trans rfl
  have f3 : W8.frozen? ⟨vb, 3, none⟩ = false := frozen_of_row W8 vb 3 _ 77 hV8
  go_upto_region 18 with fail
  have HV9 : Hid ((W8.setCell ⟨vb, 3, none⟩ (.int .i64 hv)).heap[vb]? = some (.cells #[.int .i64 1, .int .i64 XX, .int .i64 ZZ, .int .i64 hv, .int .i64 lt] 77 (0, 0))) := by show _ = _; rw [heap_setCell_same W8 vb 3 _ 77 _ hV8]; rfl
  have HO9 : Hid ((W8.setCell ⟨vb, 3, none⟩ (.int .i64 hv)).heap[w.heap.size + 1]? = some (.cells #[.int .i64 0, .int .i64 0, .int .i64 0, .int .i64 0, .int .i64 0] 77 (0, 0))) := (Below.heap_setCell W8 ⟨vb, 3, none⟩ _ (w.heap.size + 1) hn1.out).trans HO8.out
  have HB9 : Hid (Below w.heap.size w (W8.setCell ⟨vb, 3, none⟩ (.int .i64 hv))) := HB8.out.setCell (p := ⟨vb, 3, none⟩) (by have := Hvb.out; show w.heap.size ≤ vb; omega) _
  generalize W8.setCell ⟨vb, 3, none⟩ (.int .i64 hv) = W9 at *
  clear c3 f3 hV8 HO8 HB8 W8
  have c0 : W9.cell? ⟨vb, 0, none⟩ = some (.int .i64 1) := (cell_of_row W9 vb 0 _ 77 (0, 0) HV9.out).trans rfl
  have c1 : W9.cell? ⟨vb, 1, none⟩ = some (.int .i64 XX) := (cell_of_row W9 vb 1 _ 77 (0, 0) HV9.out).trans rfl
  have c2 : W9.cell? ⟨vb, 2, none⟩ = some (.int .i64 ZZ) := (cell_of_row W9 vb 2 _ 77 (0, 0) HV9.out).trans rfl
  have c3 : W9.cell? ⟨vb, 3, none⟩ = some (.int .i64 hv) := (cell_of_row W9 vb 3 _ 77 (0, 0) HV9.out).trans rfl
  have c4 : W9.cell? ⟨vb, 4, none⟩ = some (.int .i64 lt) := (cell_of_row W9 vb 4 _ 77 (0, 0) HV9.out).trans rfl
  have o0 : W9.cell? ⟨w.heap.size + 1, 0, none⟩ = some (.int .i64 0) := (cell_of_row W9 (w.heap.size + 1) 0 _ 77 (0, 0) HO9.out).trans rfl
  have f0 : W9.frozen? ⟨w.heap.size + 1, 0, none⟩ = false := frozen_of_row W9 (w.heap.size + 1) 0 _ 77 HO9.out
  have o1 : W9.cell? ⟨w.heap.size + 1, 1, none⟩ = some (.int .i64 0) := (cell_of_row W9 (w.heap.size + 1) 1 _ 77 (0, 0) HO9.out).trans rfl
  have f1 : W9.frozen? ⟨w.heap.size + 1, 1, none⟩ = false := frozen_of_row W9 (w.heap.size + 1) 1 _ 77 HO9.out
  have o2 : W9.cell? ⟨w.heap.size + 1, 2, none⟩ = some (.int .i64 0) := (cell_of_row W9 (w.heap.size + 1) 2 _ 77 (0, 0) HO9.out).trans rfl
  have f2 : W9.frozen? ⟨w.heap.size + 1, 2, none⟩ = false := frozen_of_row W9 (w.heap.size + 1) 2 _ 77 HO9.out
  have o3 : W9.cell? ⟨w.heap.size + 1, 3, none⟩ = some (.int .i64 0) := (cell_of_row W9 (w.heap.size + 1) 3 _ 77 (0, 0) HO9.out).trans rfl
  have f3 : W9.frozen? ⟨w.heap.size + 1, 3, none⟩ = false := frozen_of_row W9 (w.heap.size + 1) 3 _ 77 HO9.out
  have o4 : W9.cell? ⟨w.heap.size + 1, 4, none⟩ = some (.int .i64 0) := (cell_of_row W9 (w.heap.size + 1) 4 _ 77 (0, 0) HO9.out).trans rfl
  have f4 : W9.frozen? ⟨w.heap.size + 1, 4, none⟩ = false := frozen_of_row W9 (w.heap.size + 1) 4 _ 77 HO9.out
  have Hyes : Hid ((nb && standB 1 h gh gb) = nb → Post (.returned (.tuple #[.agg #[.int .i64 1, .int .i64 XX, .int .i64 ZZ, .int .i64 hv, .int .i64 lt], .bool nb])) (set5 W9 (w.heap.size + 1) (.int .i64 1) (.int .i64 XX) (.int .i64 ZZ) (.int .i64 hv) (.int .i64 lt))) := fun e => HP.out _ _ ⟨set5_below HB9.out _ _ _ _ _, 1, XX, ZZ, hv, lt, by
      rw [Hth2.out, e]
      rcases nb with _ | _ <;> rfl, fun t ht => by
      rw [Hth2.out, e] at ht
      rcases nb with _ | _
      · cases ht
      · injection ht with ht
        rw [← ht]
        exact ⟨rfl, rfl, rfl, (Hhv.out rfl).1, rfl⟩⟩
  have Hno : Hid ((nb && standB 1 h gh gb) = false → Post (.returned (.tuple #[.agg #[.int .i64 0, .int .i64 0, .int .i64 0, .int .i64 0, .int .i64 0], .bool false])) (set5 W9 (w.heap.size + 1) (.int .i64 0) (.int .i64 0) (.int .i64 0) (.int .i64 0) (.int .i64 0))) := fun e => HP.out _ _ ⟨set5_below HB9.out _ _ _ _ _, 0, 0, 0, 0, 0, by rw [Hth2.out, e]; rfl, fun t ht => by rw [Hth2.out, e] at ht; cases ht⟩
  have HS5 : Hid (∀ v0 v1 v2 v3 v4 : Value, (set5 W9 (w.heap.size + 1) v0 v1 v2 v3 v4).heap[w.heap.size + 1]? = some (.cells #[v0, v1, v2, v3, v4] 77 (0, 0))) := fun v0 v1 v2 v3 v4 => set5_row HO9.out v0 v1 v2 v3 v4
  have Hst : Hid (∀ g1 g2 : Int, standB 1 h g1 g2 = decide (g2 = 0)) := fun _ _ => rfl
  clear HP Hth2 HO9 HB9 HV9
  by_cases q : bw = 0
  case neg =>
    have q' : (bw == 0) = false := by simpa using q
    have R := Hno.out (by
      rcases nb with _ | _
      · rfl
      · rw [Hst.out, decide_eq_false (fun e => q ((Hhv.out rfl).2.trans e))]; rfl)
    clear Hyes Hno Hst Hhv Hnv
    go_wp2
    exact bodyPost_ret (results_row_tmp (p := 14) (u := 15) (ty := 77) rfl _ _ (w.heap.size + 1) 77 _ (0, 0) _ rfl (HS5.out _ _ _ _ _) Tryz.underlying77 rfl (by kernel_rfl)) rfl R
  have q' : (bw == 0) = true := by simpa using q
  have R := Hyes.out (by
    rcases nb with _ | _
    · rfl
    · rw [Hst.out, decide_eq_true ((Hhv.out rfl).2.symm.trans q)]; rfl)
  clear Hyes Hno Hst Hhv Hnv
  go_wp2
  exact bodyPost_ret (results_row_tmp (p := 14) (u := 15) (ty := 77) rfl _ _ (w.heap.size + 1) 77 _ (0, 0) _ rfl (HS5.out _ _ _ _ _) Tryz.underlying77 rfl (by kernel_rfl)) rfl R
set_option maxRecDepth 100000 in
set_option maxHeartbeats 4000000 in
theorem rthing2_c (S : Nat) (cx cz ox oz : Int) (a a' : Option Addr) (c c' : Nat) (hs bs : List (List Int)) (w : World) (hS : S < 18446744073709551616) (hx : -10000000000000 ≤ ox ∧ ox ≤ 10000000000000) (hz : -10000000000000 ≤ oz ∧ oz ≤ 10000000000000) (hcx : -1000000000000000 ≤ cx ∧ cx ≤ 1000000000000000) (hcz : -1000000000000000 ≤ cz ∧ cz ≤ 1000000000000000)
    (hH : Rows2 w a hs) (hB : Rows2 w a' bs) (oH : okG 128 hs) (oB : okG 4 bs) :
    Calls Tryz.prog 49 #[.int .u64 S, .agg #[.int .i64 cx, .int .i64 cz], .slice a 9 c, .slice a' 9 c', .int .i64 2, .int .i64 ox, .int .i64 oz] w (RtSay (thingN S 2 cx cz hs bs ox oz) w) := by
  have hTe : thingN S 2 cx cz hs bs ox oz = thingH 2 (R.hashN S 40 ox 0 oz) cx cz hs bs ox oz := rfl
  rw [hTe]
  clear hTe
  have hlt := R.hashN_lt S 40 ox 0 oz
  have hh := fun w => R.rhash_any S 40 ox 0 oz w hS
  generalize R.hashN S 40 ox 0 oz = h at *
  have hb := fun w => R.rbelow_any h 100 w hlt (by omega)
  obtain ⟨Post, hPost⟩ : ∃ Post : Ending → World → Prop, Post = RtSay (thingH 2 h cx cz hs bs ox oz) w := ⟨_, rfl⟩
  rw [← hPost]
  have HP : Hid (∀ e w', RtSay (thingH 2 h cx cz hs bs ox oz) w e w' → Post e w') := fun e w' h => by rw [hPost]; exact h
  clear hPost
  have Hbv : Hid (∀ b : Int, R.belowN h 100 = b → ∀ t, thingH 2 h cx cz hs bs ox oz = some t → b < 70) := fun b e t ht => by rw [← e]; exact (thing_is ht).2.1
  have Hth : Hid (thingH 2 h cx cz hs bs ox oz = if (decide (R.belowN h 100 < 70) && nearB cx cz (colX 2 h ox) (colZ 2 h oz) && standB 2 h (gAt cx cz hs (colX 2 h ox) (colZ 2 h oz)) (gAt cx cz bs (colX 2 h ox) (colZ 2 h oz))) = true then some ⟨2, colX 2 h ox, colZ 2 h oz, gAt cx cz hs (colX 2 h ox) (colZ 2 h oz), lenT h⟩ else none) := rfl
  have HHs : Hid (Rows2 w a hs ∧ okG 128 hs) := ⟨hH, oH⟩
  have HBs : Hid (Rows2 w a' bs ∧ okG 4 bs) := ⟨hB, oB⟩
  obtain ⟨bv, hbv⟩ : ∃ b : Int, R.belowN h 100 = b := ⟨_, rfl⟩
  rw [hbv] at hb Hth
  have Hb : Hid (∀ w, Calls Tryz.prog 69 #[.int .u64 (h : Int), .int .i64 100] w fun e w' => e = .returned (.int .i64 bv) ∧ Below w.heap.size w w') := fun w => (hb w).mono fun _ _ ⟨h1, e⟩ => ⟨h1, by rw [e]; exact Below.refl _ _⟩
  clear hb hbv Hbv hH hB oH oB
  obtain ⟨x0, x1⟩ := hx
  obtain ⟨z0, z1⟩ := hz
  go_enter Tryz.func49, Tryz.ntmps49
  go_wp2_with fail
  refine (hh _).mono ?_
  clear hh
  rintro _ w1 ⟨rfl, hb1⟩
  obtain ⟨hX1, hO1, _, hS1, hM1, hbw⟩ := new5 w _ _ _ _ _ hb1
  have HX1 : Hid (w1.heap[w.heap.size]? = some (.cells #[.int .i64 cx, .int .i64 cz] 24 (0, 0))) := hX1
  have HO1 : Hid (w1.heap[w.heap.size + 1]? = some (.cells #[.int .i64 0, .int .i64 0, .int .i64 0, .int .i64 0, .int .i64 0] 77 (0, 0))) := hO1
  have HS1 : Hid (w1.heap[w.heap.size + 1 + 1 + 1]? = some (.cells #[.int .i64 32, .int .i64 16, .int .i64 8] 107 (0, 0))) := hS1
  have HB1 : Hid (Below w.heap.size w w1) := hbw
  have hsome := since_some w1
  have k0 := fun s : Since w1 => Since.cell ((cell_of_row w1 (w.heap.size + 1 + 1 + 1 + 1) 2 _ 107 (0, 0) hM1).trans rfl) s
  clear hb1 hX1 hO1 hS1 hbw
  go_wp2_with fail
  refine wp_region_since (by kernel_rfl) (by kernel_rfl) ?_
  repeat (go_big_quiet_step (first | (go_at_call 69; exact Calls.since (Hb.out _))))
  refine wpQuiet_nil ?_
  rintro _ ⟨s, rfl⟩
  have HB2 : Hid (Below w.heap.size w s.w) := HB1.out.trans (s.bel.mono HB1.out.size)
  have HX2 : Hid (s.w.heap[w.heap.size]? = some (.cells #[.int .i64 cx, .int .i64 cz] 24 (0, 0))) := (s.bel.block _ (Array.getElem?_eq_some_iff.1 HX1.out).1).trans HX1.out
  have HO2 : Hid (s.w.heap[w.heap.size + 1]? = some (.cells #[.int .i64 0, .int .i64 0, .int .i64 0, .int .i64 0, .int .i64 0] 77 (0, 0))) := (s.bel.block _ (Array.getElem?_eq_some_iff.1 HO1.out).1).trans HO1.out
  have HS2 : Hid (s.w.heap[w.heap.size + 1 + 1 + 1]? = some (.cells #[.int .i64 32, .int .i64 16, .int .i64 8] 107 (0, 0))) := (s.bel.block _ (Array.getElem?_eq_some_iff.1 HS1.out).1).trans HS1.out
  generalize s.w = W2 at *
  clear hsome k0 HB1 HX1 HO1 HS1 hM1
  by_cases hbv : bv < 70
  case neg =>
    have hbv' : 70 ≤ bv := by omega
    have c0 : W2.cell? ⟨w.heap.size + 1, 0, none⟩ = some (.int .i64 0) := (cell_of_row W2 (w.heap.size + 1) 0 _ 77 (0, 0) HO2.out).trans rfl
    have f0 : W2.frozen? ⟨w.heap.size + 1, 0, none⟩ = false := frozen_of_row W2 (w.heap.size + 1) 0 _ 77 HO2.out
    have c1 : W2.cell? ⟨w.heap.size + 1, 1, none⟩ = some (.int .i64 0) := (cell_of_row W2 (w.heap.size + 1) 1 _ 77 (0, 0) HO2.out).trans rfl
    have f1 : W2.frozen? ⟨w.heap.size + 1, 1, none⟩ = false := frozen_of_row W2 (w.heap.size + 1) 1 _ 77 HO2.out
    have c2 : W2.cell? ⟨w.heap.size + 1, 2, none⟩ = some (.int .i64 0) := (cell_of_row W2 (w.heap.size + 1) 2 _ 77 (0, 0) HO2.out).trans rfl
    have f2 : W2.frozen? ⟨w.heap.size + 1, 2, none⟩ = false := frozen_of_row W2 (w.heap.size + 1) 2 _ 77 HO2.out
    have c3 : W2.cell? ⟨w.heap.size + 1, 3, none⟩ = some (.int .i64 0) := (cell_of_row W2 (w.heap.size + 1) 3 _ 77 (0, 0) HO2.out).trans rfl
    have f3 : W2.frozen? ⟨w.heap.size + 1, 3, none⟩ = false := frozen_of_row W2 (w.heap.size + 1) 3 _ 77 HO2.out
    have c4 : W2.cell? ⟨w.heap.size + 1, 4, none⟩ = some (.int .i64 0) := (cell_of_row W2 (w.heap.size + 1) 4 _ 77 (0, 0) HO2.out).trans rfl
    have f4 : W2.frozen? ⟨w.heap.size + 1, 4, none⟩ = false := frozen_of_row W2 (w.heap.size + 1) 4 _ 77 HO2.out
    have R := HP.out _ _ (show RtSay (thingH 2 h cx cz hs bs ox oz) w (.returned (.tuple #[.agg #[.int .i64 0, .int .i64 0, .int .i64 0, .int .i64 0, .int .i64 0], .bool false])) (set5 W2 (w.heap.size + 1) (.int .i64 0) (.int .i64 0) (.int .i64 0) (.int .i64 0) (.int .i64 0)) from by
      have hn : thingH 2 h cx cz hs bs ox oz = none := by rw [Hth.out, decide_eq_false hbv]; rfl
      rw [hn]
      exact ⟨set5_below HB2.out _ _ _ _ _, 0, 0, 0, 0, 0, rfl, fun t ht => by cases ht⟩)
    have HS5 : Hid ((set5 W2 (w.heap.size + 1) (.int .i64 0) (.int .i64 0) (.int .i64 0) (.int .i64 0) (.int .i64 0)).heap[w.heap.size + 1]? = some (.cells #[.int .i64 0, .int .i64 0, .int .i64 0, .int .i64 0, .int .i64 0] 77 (0, 0))) := set5_row HO2.out _ _ _ _ _
    clear HP Hth HHs HBs HB2 HX2 HO2 HS2 Hb
    go_wp2
    exact bodyPost_ret (results_row_tmp (p := 14) (u := 15) (ty := 77) rfl _ _ (w.heap.size + 1) 77 _ (0, 0) _ rfl HS5.out Tryz.underlying77 rfl (by kernel_rfl)) rfl R
  have hbv' : ¬ 70 ≤ bv := by omega
  have Hth2 : Hid (thingH 2 h cx cz hs bs ox oz = if (nearB cx cz (colX 2 h ox) (colZ 2 h oz) && standB 2 h (gAt cx cz hs (colX 2 h ox) (colZ 2 h oz)) (gAt cx cz bs (colX 2 h ox) (colZ 2 h oz))) = true then some ⟨2, colX 2 h ox, colZ 2 h oz, gAt cx cz hs (colX 2 h ox) (colZ 2 h oz), lenT h⟩ else none) := by show _ = _; rw [Hth.out, decide_eq_true hbv, Bool.true_and]
  clear Hth Hb hbv
  have e4 : bits .and .i64 ((h : Int) / 65536) 3 = ((h / 65536 % 4 : Nat) : Int) := by rw [and3]; omega
  have HL : Hid (lenT h = 4 + ((h / 65536 % 4 : Nat) : Int)) := rfl
  have b4 : h / 65536 % 4 < 4 := Nat.mod_lt _ (by omega)
  generalize h / 65536 % 4 = M4 at *
  obtain ⟨lt, hlt4⟩ : ∃ l : Int, (4 : Int) + (M4 : Int) = l := ⟨_, rfl⟩
  have wl : IntKind.i64.wrap (4 + (M4 : Int)) = lt := by rw [IntKind.wrap_i64]; omega
  rw [hlt4] at HL
  have wx : IntKind.i64.wrap (8 * ox) = 8 * ox := by rw [IntKind.wrap_i64]; omega
  have wz : IntKind.i64.wrap (8 * oz) = 8 * oz := by rw [IntKind.wrap_i64]; omega
  have hcw2 : IntKind.i64.wrap ((h : Int) / 65536) = (h : Int) / 65536 := wrap_in _ (shr_in h 65536 (by omega) hlt).1 (shr_in h 65536 (by omega) hlt).2
  clear hlt4
  go_wp2_with fail
  refine region_L (fun w' => Below W2.heap.size W2 w') 19 (by kernel_rfl) ?_
  have hHeld : Below W2.heap.size W2 W2.drew := (Below.refl _ _).drew
  have HB3 : Hid (Below w.heap.size w W2.drew) := HB2.out.drew
  have HX3 : Hid (W2.drew.heap[w.heap.size]? = some (.cells #[.int .i64 cx, .int .i64 cz] 24 (0, 0))) := HX2.out
  have HO3 : Hid (W2.drew.heap[w.heap.size + 1]? = some (.cells #[.int .i64 0, .int .i64 0, .int .i64 0, .int .i64 0, .int .i64 0] 77 (0, 0))) := HO2.out
  have k0 : ∀ s : Sub (fun w' => Below W2.heap.size W2 w'), s.w.cell? ⟨w.heap.size + 1 + 1 + 1, 2, none⟩ = some (.int .i64 8) := fun s => cell_below ((cell_of_row W2 (w.heap.size + 1 + 1 + 1) 2 _ 107 (0, 0) HS2.out).trans rfl) s.ok
  have hne : Nonempty (Sub (fun w' => Below W2.heap.size W2 w')) := ⟨⟨_, hHeld⟩⟩
  clear HB2 HX2 HO2
  generalize W2.drew = W3 at *
  refine take_L (i := 0) rfl (by kernel_rfl) (by kernel_rfl) (by kernel_rfl) (by kernel_rfl) (fun _ _ _ _ h => h) (by exact hHeld) (fun K hK => ?_)
  go_simp
  refine hK _ ?_
  clear hK K
  refine take_L (i := 1) rfl (by kernel_rfl) (by kernel_rfl) (by kernel_rfl) (by kernel_rfl) (fun _ _ _ _ h => h) (by exact hHeld) (fun K hK => ?_)
  go_simp
  refine hK _ ?_
  clear hK K
  refine take_L (i := 2) rfl (by kernel_rfl) (by kernel_rfl) (by kernel_rfl) (by kernel_rfl) (fun _ _ _ _ h => h) (by exact hHeld) (fun K hK => ?_)
  go_simp
  refine hK _ ?_
  clear hK K
  refine take_L (i := 3) rfl (by kernel_rfl) (by kernel_rfl) (by kernel_rfl) (by kernel_rfl) (fun _ _ _ _ h => h) (by exact hHeld) (fun K hK => ?_)
  go_simp
  refine hK _ ?_
  clear hK K
  refine take_L (i := 4) rfl (by kernel_rfl) (by kernel_rfl) (by kernel_rfl) (by kernel_rfl) (fun _ _ _ _ h => h) (by exact hHeld) (fun K hK => ?_)
  go_simp
  refine hK _ ?_
  clear hK K
  refine take_L (i := 5) rfl (by kernel_rfl) (by kernel_rfl) (by kernel_rfl) (by kernel_rfl) (fun _ _ _ _ h => h) (by exact hHeld) (fun K hK => ?_)
  go_simp
  refine hK _ ?_
  clear hK K
  refine take_L (i := 6) rfl (by kernel_rfl) (by kernel_rfl) (by kernel_rfl) (by kernel_rfl) (fun _ _ _ _ h => h) (by exact hHeld) (fun K hK => ?_)
  go_simp
  refine hK _ ?_
  clear hK K
  refine take_L (i := 7) rfl (by kernel_rfl) (by kernel_rfl) (by kernel_rfl) (by kernel_rfl) (fun _ _ _ _ h => h) (by exact hHeld) (fun K hK => ?_)
  go_simp
  refine hK _ ?_
  clear hK K
  refine take_L (i := 8) rfl (by kernel_rfl) (by kernel_rfl) (by kernel_rfl) (by kernel_rfl) (fun _ _ _ _ h => h) (by exact hHeld) (fun K hK => ?_)
  go_simp
  refine hK _ ?_
  clear hK K
  refine take_L (i := 9) rfl (by kernel_rfl) (by kernel_rfl) (by kernel_rfl) (by kernel_rfl) (fun _ _ _ _ h => h) (by exact hHeld) (fun K hK => ?_)
  go_simp
  refine hK _ ?_
  clear hK K
  refine take_L (i := 10) rfl (by kernel_rfl) (by kernel_rfl) (by kernel_rfl) (by kernel_rfl) (fun _ _ _ _ h => h) (by exact hHeld) (fun K hK => ?_)
  go_simp
  refine hK _ ?_
  clear hK K
  refine take_L (i := 11) rfl (by kernel_rfl) (by kernel_rfl) (by kernel_rfl) (by kernel_rfl) (fun _ _ _ _ h => h) (by exact hHeld) (fun K hK => ?_)
  go_simp
  refine hK _ ?_
  clear hK K
  refine take_L (i := 12) rfl (by kernel_rfl) (by kernel_rfl) (by kernel_rfl) (by kernel_rfl) (fun _ _ _ _ h => h) (by exact hHeld) (fun K hK => ?_)
  go_simp
  refine hK _ ?_
  clear hK K
  refine take_L (i := 13) rfl (by kernel_rfl) (by kernel_rfl) (by kernel_rfl) (by kernel_rfl) (fun _ _ _ _ h => h) (by exact hHeld) (fun K hK => ?_)
  go_simp
  refine hK _ ?_
  clear hK K
  refine take_L (i := 14) rfl (by kernel_rfl) (by kernel_rfl) (by kernel_rfl) (by kernel_rfl) (fun _ _ _ _ h => h) (by exact hHeld) (fun K hK => ?_)
  go_simp
  refine hK _ ?_
  clear hK K
  refine take_L (i := 15) rfl (by kernel_rfl) (by kernel_rfl) (by kernel_rfl) (by kernel_rfl) (fun _ _ _ _ h => h) (by exact hHeld) (fun K hK => ?_)
  go_simp
  refine hK _ ?_
  clear hK K
  refine take_L (i := 16) rfl (by kernel_rfl) (by kernel_rfl) (by kernel_rfl) (by kernel_rfl) (fun _ _ _ _ h => h) (by exact hHeld) (fun K hK => ?_)
  go_simp
  refine hK _ ?_
  clear hK K
  refine one_L (i := 17) (by kernel_rfl) rfl (fun K hK => ?_)
  go_simp
  have Hv2 : Hid (W2.heap.size ≤ W3.heap.size) := hHeld.size
  replace hHeld : Below W2.heap.size W2 (W3.alloc (.cells #[.int .i64 0, .int .i64 0, .int .i64 0, .int .i64 0, .int .i64 0] 77)) := hHeld.alloc hHeld.size _
  refine hK.out _ _ (fun _ => hHeld) ?_
  clear hK K k0 hne wx wz wl hcw2 e4
  have HB4 : Hid (Below w.heap.size w (W3.alloc (.cells #[.int .i64 0, .int .i64 0, .int .i64 0, .int .i64 0, .int .i64 0] 77))) := HB3.out.alloc HB3.out.size _
  have HX4 : Hid ((W3.alloc (.cells #[.int .i64 0, .int .i64 0, .int .i64 0, .int .i64 0, .int .i64 0] 77)).heap[w.heap.size]? = some (.cells #[.int .i64 cx, .int .i64 cz] 24 (0, 0))) := (heap_alloc_old W3 _ (Array.getElem?_eq_some_iff.1 HX3.out).1).trans HX3.out
  have HO4 : Hid ((W3.alloc (.cells #[.int .i64 0, .int .i64 0, .int .i64 0, .int .i64 0, .int .i64 0] 77)).heap[w.heap.size + 1]? = some (.cells #[.int .i64 0, .int .i64 0, .int .i64 0, .int .i64 0, .int .i64 0] 77 (0, 0))) := (heap_alloc_old W3 _ (Array.getElem?_eq_some_iff.1 HO3.out).1).trans HO3.out
  have HV4 : Hid ((W3.alloc (.cells #[.int .i64 0, .int .i64 0, .int .i64 0, .int .i64 0, .int .i64 0] 77)).heap[W3.heap.size]? = some (.cells #[.int .i64 0, .int .i64 0, .int .i64 0, .int .i64 0, .int .i64 0] 77 (0, 0))) := heap_alloc_new W3 _
  have Hvb : Hid (w.heap.size + 1 < W3.heap.size) := (Array.getElem?_eq_some_iff.1 HO3.out).1
  generalize W3.alloc _ = W4 at *
  generalize W3.heap.size = vb at *
  clear HB3 HX3 HO3 W3
  have c0 : W4.cell? ⟨vb, 0, none⟩ = some (.int .i64 0) := (cell_of_row W4 vb 0 _ 77 (0, 0) HV4.out).trans rfl
  have f0 : W4.frozen? ⟨vb, 0, none⟩ = false := frozen_of_row W4 vb 0 _ 77 HV4.out
  have c1 : W4.cell? ⟨vb, 1, none⟩ = some (.int .i64 0) := (cell_of_row W4 vb 1 _ 77 (0, 0) HV4.out).trans rfl
  have f1 : W4.frozen? ⟨vb, 1, none⟩ = false := frozen_of_row W4 vb 1 _ 77 HV4.out
  have c2 : W4.cell? ⟨vb, 2, none⟩ = some (.int .i64 0) := (cell_of_row W4 vb 2 _ 77 (0, 0) HV4.out).trans rfl
  have f2 : W4.frozen? ⟨vb, 2, none⟩ = false := frozen_of_row W4 vb 2 _ 77 HV4.out
  have c3 : W4.cell? ⟨vb, 3, none⟩ = some (.int .i64 0) := (cell_of_row W4 vb 3 _ 77 (0, 0) HV4.out).trans rfl
  have f3 : W4.frozen? ⟨vb, 3, none⟩ = false := frozen_of_row W4 vb 3 _ 77 HV4.out
  have c4 : W4.cell? ⟨vb, 4, none⟩ = some (.int .i64 0) := (cell_of_row W4 vb 4 _ 77 (0, 0) HV4.out).trans rfl
  have f4 : W4.frozen? ⟨vb, 4, none⟩ = false := frozen_of_row W4 vb 4 _ 77 HV4.out
  refine one_L (i := 18) (by kernel_rfl) rfl (fun K hK => ?_)
  go_simp
  refine hK.out _ _ (fun _ => set5_below hHeld _ _ _ _ _ Hv2.out) ?_
  clear hK K
  refine done_L (by kernel_rfl) ?_ _
  have HV5 : Hid ((set5 W4 vb (.int .i64 2) (.int .i64 (8 * ox)) (.int .i64 (8 * oz)) (.int .i64 0) (.int .i64 lt)).heap[vb]? = some (.cells #[.int .i64 2, .int .i64 (8 * ox), .int .i64 (8 * oz), .int .i64 0, .int .i64 lt] 77 (0, 0))) := set5_row HV4.out _ _ _ _ _
  have HX5 : Hid ((set5 W4 vb (.int .i64 2) (.int .i64 (8 * ox)) (.int .i64 (8 * oz)) (.int .i64 0) (.int .i64 lt)).heap[w.heap.size]? = some (.cells #[.int .i64 cx, .int .i64 cz] 24 (0, 0))) := (set5_other (by have := Hvb.out; omega) _ _ _ _ _).trans HX4.out
  have HO5 : Hid ((set5 W4 vb (.int .i64 2) (.int .i64 (8 * ox)) (.int .i64 (8 * oz)) (.int .i64 0) (.int .i64 lt)).heap[w.heap.size + 1]? = some (.cells #[.int .i64 0, .int .i64 0, .int .i64 0, .int .i64 0, .int .i64 0] 77 (0, 0))) := (set5_other (by have := Hvb.out; omega) _ _ _ _ _).trans HO4.out
  have HB5 : Hid (Below w.heap.size w (set5 W4 vb (.int .i64 2) (.int .i64 (8 * ox)) (.int .i64 (8 * oz)) (.int .i64 0) (.int .i64 lt))) := set5_below HB4.out _ _ _ _ _ (by have := Hvb.out; omega)
  unfold set5 at HV5 HX5 HO5 HB5
  generalize ((((W4.setCell ⟨vb, 0, none⟩ (.int .i64 2)).setCell ⟨vb, 1, none⟩ (.int .i64 (8 * ox))).setCell ⟨vb, 2, none⟩ (.int .i64 (8 * oz))).setCell ⟨vb, 3, none⟩ (.int .i64 0)).setCell ⟨vb, 4, none⟩ (.int .i64 lt) = W5 at *
  clear c0 c1 c2 c3 c4 f0 f1 f2 f3 f4 HV4 HX4 HO4 HB4 hHeld Hv2 HS2 W4
  have c0 : W5.cell? ⟨vb, 0, none⟩ = some (.int .i64 2) := (cell_of_row W5 vb 0 _ 77 (0, 0) HV5.out).trans rfl
  have f0 : W5.frozen? ⟨vb, 0, none⟩ = false := frozen_of_row W5 vb 0 _ 77 HV5.out
  have c1 : W5.cell? ⟨vb, 1, none⟩ = some (.int .i64 (8 * ox)) := (cell_of_row W5 vb 1 _ 77 (0, 0) HV5.out).trans rfl
  have f1 : W5.frozen? ⟨vb, 1, none⟩ = false := frozen_of_row W5 vb 1 _ 77 HV5.out
  have c2 : W5.cell? ⟨vb, 2, none⟩ = some (.int .i64 (8 * oz)) := (cell_of_row W5 vb 2 _ 77 (0, 0) HV5.out).trans rfl
  have f2 : W5.frozen? ⟨vb, 2, none⟩ = false := frozen_of_row W5 vb 2 _ 77 HV5.out
  have c3 : W5.cell? ⟨vb, 3, none⟩ = some (.int .i64 0) := (cell_of_row W5 vb 3 _ 77 (0, 0) HV5.out).trans rfl
  have f3 : W5.frozen? ⟨vb, 3, none⟩ = false := frozen_of_row W5 vb 3 _ 77 HV5.out
  have c4 : W5.cell? ⟨vb, 4, none⟩ = some (.int .i64 lt) := (cell_of_row W5 vb 4 _ 77 (0, 0) HV5.out).trans rfl
  have f4 : W5.frozen? ⟨vb, 4, none⟩ = false := frozen_of_row W5 vb 4 _ 77 HV5.out
  have e1 : bits .and .i64 ((h : Int) / 256) 7 = ((h / 256 % 8 : Nat) : Int) := by rw [and7]; omega
  have e2 : bits .and .i64 ((h : Int) / 2048) 7 = ((h / 2048 % 8 : Nat) : Int) := by rw [and7]; omega
  have HcX : Hid (colX 2 h ox = 8 * ox + ((h / 256 % 8 : Nat) : Int)) := rfl
  have HcZ : Hid (colZ 2 h oz = 8 * oz + ((h / 2048 % 8 : Nat) : Int)) := rfl
  have b1 : h / 256 % 8 < 8 := Nat.mod_lt _ (by omega)
  have b2 : h / 2048 % 8 < 8 := Nat.mod_lt _ (by omega)
  generalize h / 256 % 8 = M1 at *
  generalize h / 2048 % 8 = M2 at *
  have k0 : W5.cell? ⟨w.heap.size, 0, none⟩ = some (.int .i64 cx) := (cell_of_row W5 w.heap.size 0 _ 24 (0, 0) HX5.out).trans rfl
  have k1 : W5.cell? ⟨w.heap.size, 1, none⟩ = some (.int .i64 cz) := (cell_of_row W5 w.heap.size 1 _ 24 (0, 0) HX5.out).trans rfl
  have hnv : ¬ w.heap.size = vb := by have := Hvb.out; omega
  have hn0 : Hid (w.heap.size ≠ vb) := hnv
  have hn1 : Hid (w.heap.size + 1 ≠ vb) := by show _ ≠ _; have := Hvb.out; omega
  go_upto_region 16 with fail
  have HV7 : Hid (((W5.setCell ⟨vb, 1, none⟩ (.int .i64 (8 * ox + (M1 : Int)))).setCell ⟨vb, 2, none⟩ (.int .i64 (8 * oz + (M2 : Int)))).heap[vb]? = some (.cells #[.int .i64 2, .int .i64 (8 * ox + (M1 : Int)), .int .i64 (8 * oz + (M2 : Int)), .int .i64 0, .int .i64 lt] 77 (0, 0))) := by show _ = _; rw [heap_setCell_same _ vb 2 _ 77 _ (heap_setCell_same W5 vb 1 _ 77 _ HV5.out)]; rfl
  have HX7 : Hid (((W5.setCell ⟨vb, 1, none⟩ (.int .i64 (8 * ox + (M1 : Int)))).setCell ⟨vb, 2, none⟩ (.int .i64 (8 * oz + (M2 : Int)))).heap[w.heap.size]? = some (.cells #[.int .i64 cx, .int .i64 cz] 24 (0, 0))) := by show _ = _; rw [Below.heap_setCell _ ⟨vb, 2, none⟩ _ w.heap.size hn0.out, Below.heap_setCell _ ⟨vb, 1, none⟩ _ w.heap.size hn0.out]; exact HX5.out
  have HO7 : Hid (((W5.setCell ⟨vb, 1, none⟩ (.int .i64 (8 * ox + (M1 : Int)))).setCell ⟨vb, 2, none⟩ (.int .i64 (8 * oz + (M2 : Int)))).heap[w.heap.size + 1]? = some (.cells #[.int .i64 0, .int .i64 0, .int .i64 0, .int .i64 0, .int .i64 0] 77 (0, 0))) := by show _ = _; rw [Below.heap_setCell _ ⟨vb, 2, none⟩ _ (w.heap.size + 1) hn1.out, Below.heap_setCell _ ⟨vb, 1, none⟩ _ (w.heap.size + 1) hn1.out]; exact HO5.out
  have HB7 : Hid (Below w.heap.size w ((W5.setCell ⟨vb, 1, none⟩ (.int .i64 (8 * ox + (M1 : Int)))).setCell ⟨vb, 2, none⟩ (.int .i64 (8 * oz + (M2 : Int))))) := (HB5.out.setCell (p := ⟨vb, 1, none⟩) (by have := Hvb.out; show w.heap.size ≤ vb; omega) _).setCell (p := ⟨vb, 2, none⟩) (by have := Hvb.out; show w.heap.size ≤ vb; omega) _
  generalize (W5.setCell ⟨vb, 1, none⟩ (.int .i64 (8 * ox + (M1 : Int)))).setCell ⟨vb, 2, none⟩ (.int .i64 (8 * oz + (M2 : Int))) = W7 at *
  clear HV5 HX5 HO5 HB5
  clear c0 c1 c2 c3 c4 f0 f1 f2 f3 f4 k0 k1 W5
  obtain ⟨XX, hXX⟩ : ∃ v : Int, 8 * ox + (M1 : Int) = v := ⟨_, rfl⟩
  obtain ⟨ZZ, hZZ⟩ : ∃ v : Int, 8 * oz + (M2 : Int) = v := ⟨_, rfl⟩
  rw [hXX, hZZ] at HV7
  have c1 : W7.cell? ⟨vb, 1, none⟩ = some (.int .i64 XX) := (cell_of_row W7 vb 1 _ 77 (0, 0) HV7.out).trans rfl
  have c2 : W7.cell? ⟨vb, 2, none⟩ = some (.int .i64 ZZ) := (cell_of_row W7 vb 2 _ 77 (0, 0) HV7.out).trans rfl
  have k0 : W7.cell? ⟨w.heap.size, 0, none⟩ = some (.int .i64 cx) := (cell_of_row W7 w.heap.size 0 _ 24 (0, 0) HX7.out).trans rfl
  have k1 : W7.cell? ⟨w.heap.size, 1, none⟩ = some (.int .i64 cz) := (cell_of_row W7 w.heap.size 1 _ 24 (0, 0) HX7.out).trans rfl
  go_wp2_with fail
  clear c1 c2
  have hgr := rground_c cx cz XX ZZ a a' c c' hs bs W7 (by omega) (by omega) hcx hcz (HHs.out.1.on HB7.out) (HBs.out.1.on HB7.out) HHs.out.2 HBs.out.2
  have hge : toldG cx cz hs bs XX ZZ = .returned (.tuple #[.int .i64 (if nearB cx cz XX ZZ then gAt cx cz hs XX ZZ else 0), .int .i64 (if nearB cx cz XX ZZ then gAt cx cz bs XX ZZ else 0), .bool (nearB cx cz XX ZZ)]) := rfl
  rw [hge] at hgr
  clear hge
  rw [show 8 * ox + (M1 : Int) = XX from hXX] at HcX
  rw [show 8 * oz + (M2 : Int) = ZZ from hZZ] at HcZ
  rw [HcX.out, HcZ.out, HL.out] at Hth2
  clear HHs HBs HcX HcZ HL
  generalize nearB cx cz XX ZZ = nb at *
  generalize gAt cx cz hs XX ZZ = gh at *
  generalize gAt cx cz bs XX ZZ = gb at *
  obtain ⟨hv, hhv⟩ : ∃ v : Int, (if nb = true then gh else 0) = v := ⟨_, rfl⟩
  obtain ⟨bw, hbw⟩ : ∃ v : Int, (if nb = true then gb else 0) = v := ⟨_, rfl⟩
  rw [hhv, hbw] at hgr
  have Hhv : Hid (nb = true → hv = gh ∧ bw = gb) := fun e => by subst e; exact ⟨hhv.symm, hbw.symm⟩
  have Hnv : Hid (nb = false → hv = 0 ∧ bw = 0) := fun e => by subst e; exact ⟨hhv.symm, hbw.symm⟩
  clear hhv hbw
  refine hgr.mono ?_
  clear hgr k0 k1
  rintro _ W8 ⟨rfl, hb8⟩
  have HB8 : Hid (Below w.heap.size w W8) := HB7.out.trans (hb8.mono HB7.out.size)
  have hV8 : W8.heap[vb]? = some (.cells #[.int .i64 2, .int .i64 XX, .int .i64 ZZ, .int .i64 0, .int .i64 lt] 77 (0, 0)) := (hb8.block _ (Array.getElem?_eq_some_iff.1 HV7.out).1).trans HV7.out
  have HO8 : Hid (W8.heap[w.heap.size + 1]? = some (.cells #[.int .i64 0, .int .i64 0, .int .i64 0, .int .i64 0, .int .i64 0] 77 (0, 0))) := (hb8.block _ (Array.getElem?_eq_some_iff.1 HO7.out).1).trans HO7.out
  clear hb8 HB7 HV7 HO7 HX7
  have c3 : W8.cell? ⟨vb, 3, none⟩ = some (.int .i64 0) := (cell_of_row W8 vb 3 _ 77 (0, 0) hV8).trans rfl
  have f3 : W8.frozen? ⟨vb, 3, none⟩ = false := frozen_of_row W8 vb 3 _ 77 hV8
  go_upto_region 18 with fail
  have HV9 : Hid ((W8.setCell ⟨vb, 3, none⟩ (.int .i64 hv)).heap[vb]? = some (.cells #[.int .i64 2, .int .i64 XX, .int .i64 ZZ, .int .i64 hv, .int .i64 lt] 77 (0, 0))) := by show _ = _; rw [heap_setCell_same W8 vb 3 _ 77 _ hV8]; rfl
  have HO9 : Hid ((W8.setCell ⟨vb, 3, none⟩ (.int .i64 hv)).heap[w.heap.size + 1]? = some (.cells #[.int .i64 0, .int .i64 0, .int .i64 0, .int .i64 0, .int .i64 0] 77 (0, 0))) := (Below.heap_setCell W8 ⟨vb, 3, none⟩ _ (w.heap.size + 1) hn1.out).trans HO8.out
  have HB9 : Hid (Below w.heap.size w (W8.setCell ⟨vb, 3, none⟩ (.int .i64 hv))) := HB8.out.setCell (p := ⟨vb, 3, none⟩) (by have := Hvb.out; show w.heap.size ≤ vb; omega) _
  generalize W8.setCell ⟨vb, 3, none⟩ (.int .i64 hv) = W9 at *
  clear c3 f3 hV8 HO8 HB8 W8
  have c0 : W9.cell? ⟨vb, 0, none⟩ = some (.int .i64 2) := (cell_of_row W9 vb 0 _ 77 (0, 0) HV9.out).trans rfl
  have c1 : W9.cell? ⟨vb, 1, none⟩ = some (.int .i64 XX) := (cell_of_row W9 vb 1 _ 77 (0, 0) HV9.out).trans rfl
  have c2 : W9.cell? ⟨vb, 2, none⟩ = some (.int .i64 ZZ) := (cell_of_row W9 vb 2 _ 77 (0, 0) HV9.out).trans rfl
  have c3 : W9.cell? ⟨vb, 3, none⟩ = some (.int .i64 hv) := (cell_of_row W9 vb 3 _ 77 (0, 0) HV9.out).trans rfl
  have c4 : W9.cell? ⟨vb, 4, none⟩ = some (.int .i64 lt) := (cell_of_row W9 vb 4 _ 77 (0, 0) HV9.out).trans rfl
  have o0 : W9.cell? ⟨w.heap.size + 1, 0, none⟩ = some (.int .i64 0) := (cell_of_row W9 (w.heap.size + 1) 0 _ 77 (0, 0) HO9.out).trans rfl
  have f0 : W9.frozen? ⟨w.heap.size + 1, 0, none⟩ = false := frozen_of_row W9 (w.heap.size + 1) 0 _ 77 HO9.out
  have o1 : W9.cell? ⟨w.heap.size + 1, 1, none⟩ = some (.int .i64 0) := (cell_of_row W9 (w.heap.size + 1) 1 _ 77 (0, 0) HO9.out).trans rfl
  have f1 : W9.frozen? ⟨w.heap.size + 1, 1, none⟩ = false := frozen_of_row W9 (w.heap.size + 1) 1 _ 77 HO9.out
  have o2 : W9.cell? ⟨w.heap.size + 1, 2, none⟩ = some (.int .i64 0) := (cell_of_row W9 (w.heap.size + 1) 2 _ 77 (0, 0) HO9.out).trans rfl
  have f2 : W9.frozen? ⟨w.heap.size + 1, 2, none⟩ = false := frozen_of_row W9 (w.heap.size + 1) 2 _ 77 HO9.out
  have o3 : W9.cell? ⟨w.heap.size + 1, 3, none⟩ = some (.int .i64 0) := (cell_of_row W9 (w.heap.size + 1) 3 _ 77 (0, 0) HO9.out).trans rfl
  have f3 : W9.frozen? ⟨w.heap.size + 1, 3, none⟩ = false := frozen_of_row W9 (w.heap.size + 1) 3 _ 77 HO9.out
  have o4 : W9.cell? ⟨w.heap.size + 1, 4, none⟩ = some (.int .i64 0) := (cell_of_row W9 (w.heap.size + 1) 4 _ 77 (0, 0) HO9.out).trans rfl
  have f4 : W9.frozen? ⟨w.heap.size + 1, 4, none⟩ = false := frozen_of_row W9 (w.heap.size + 1) 4 _ 77 HO9.out
  have Hyes : Hid ((nb && standB 2 h gh gb) = nb → Post (.returned (.tuple #[.agg #[.int .i64 2, .int .i64 XX, .int .i64 ZZ, .int .i64 hv, .int .i64 lt], .bool nb])) (set5 W9 (w.heap.size + 1) (.int .i64 2) (.int .i64 XX) (.int .i64 ZZ) (.int .i64 hv) (.int .i64 lt))) := fun e => HP.out _ _ ⟨set5_below HB9.out _ _ _ _ _, 2, XX, ZZ, hv, lt, by
      rw [Hth2.out, e]
      rcases nb with _ | _ <;> rfl, fun t ht => by
      rw [Hth2.out, e] at ht
      rcases nb with _ | _
      · cases ht
      · injection ht with ht
        rw [← ht]
        exact ⟨rfl, rfl, rfl, (Hhv.out rfl).1, rfl⟩⟩
  have Hno : Hid ((nb && standB 2 h gh gb) = false → Post (.returned (.tuple #[.agg #[.int .i64 0, .int .i64 0, .int .i64 0, .int .i64 0, .int .i64 0], .bool false])) (set5 W9 (w.heap.size + 1) (.int .i64 0) (.int .i64 0) (.int .i64 0) (.int .i64 0) (.int .i64 0))) := fun e => HP.out _ _ ⟨set5_below HB9.out _ _ _ _ _, 0, 0, 0, 0, 0, by rw [Hth2.out, e]; rfl, fun t ht => by rw [Hth2.out, e] at ht; cases ht⟩
  have HS5 : Hid (∀ v0 v1 v2 v3 v4 : Value, (set5 W9 (w.heap.size + 1) v0 v1 v2 v3 v4).heap[w.heap.size + 1]? = some (.cells #[v0, v1, v2, v3, v4] 77 (0, 0))) := fun v0 v1 v2 v3 v4 => set5_row HO9.out v0 v1 v2 v3 v4
  have Hst : Hid (∀ g1 g2 : Int, standB 2 h g1 g2 = decide (44 ≤ g1 ∧ (g2 = 1 ∨ (g2 = 0 ∧ h / 16384 % 4 = 0)))) := fun _ _ => rfl
  clear HP Hth2 HO9 HB9 HV9
  have e3 : bits .and .i64 ((h : Int) / 16384) 3 = ((h / 16384 % 4 : Nat) : Int) := by rw [and3]; omega
  generalize h / 16384 % 4 = M3 at *
  by_cases q1 : hv < 44
  · have R := Hno.out (by
      rcases nb with _ | _
      · rfl
      · have e1 := (Hhv.out rfl).1
        have e2 := (Hhv.out rfl).2
        rw [Hst.out, decide_eq_false (by omega)]; rfl)
    clear Hyes Hno Hst Hhv Hnv
    go_wp2
    exact bodyPost_ret (results_row_tmp (p := 14) (u := 15) (ty := 77) rfl _ _ (w.heap.size + 1) 77 _ (0, 0) _ rfl (HS5.out _ _ _ _ _) Tryz.underlying77 rfl (by kernel_rfl)) rfl R
  by_cases q2 : bw = 1
  · have q2' : (bw == 1) = true := by simpa using q2
    have R := Hyes.out (by
      rcases nb with _ | _
      · rfl
      · have e1 := (Hhv.out rfl).1
        have e2 := (Hhv.out rfl).2
        rw [Hst.out, decide_eq_true (by omega)]; rfl)
    clear Hyes Hno Hst Hhv Hnv
    go_wp2
    exact bodyPost_ret (results_row_tmp (p := 14) (u := 15) (ty := 77) rfl _ _ (w.heap.size + 1) 77 _ (0, 0) _ rfl (HS5.out _ _ _ _ _) Tryz.underlying77 rfl (by kernel_rfl)) rfl R
  have q2' : (bw == 1) = false := by simpa using q2
  by_cases q3 : bw = 0
  case neg =>
    have q3' : (bw == 0) = false := by simpa using q3
    have R := Hno.out (by
      rcases nb with _ | _
      · rfl
      · have e1 := (Hhv.out rfl).1
        have e2 := (Hhv.out rfl).2
        rw [Hst.out, decide_eq_false (by omega)]; rfl)
    clear Hyes Hno Hst Hhv Hnv
    go_wp2
    exact bodyPost_ret (results_row_tmp (p := 14) (u := 15) (ty := 77) rfl _ _ (w.heap.size + 1) 77 _ (0, 0) _ rfl (HS5.out _ _ _ _ _) Tryz.underlying77 rfl (by kernel_rfl)) rfl R
  have q3' : (bw == 0) = true := by simpa using q3
  by_cases q4 : M3 = 0
  case neg =>
    have q4' : ((M3 : Int) == 0) = false := by simp; omega
    have R := Hno.out (by
      rcases nb with _ | _
      · rfl
      · have e1 := (Hhv.out rfl).1
        have e2 := (Hhv.out rfl).2
        rw [Hst.out, decide_eq_false (by omega)]; rfl)
    clear Hyes Hno Hst Hhv Hnv
    go_wp2
    exact bodyPost_ret (results_row_tmp (p := 14) (u := 15) (ty := 77) rfl _ _ (w.heap.size + 1) 77 _ (0, 0) _ rfl (HS5.out _ _ _ _ _) Tryz.underlying77 rfl (by kernel_rfl)) rfl R
  have q4' : ((M3 : Int) == 0) = true := by simp; omega
  have R := Hyes.out (by
    rcases nb with _ | _
    · rfl
    · have e1 := (Hhv.out rfl).1
      have e2 := (Hhv.out rfl).2
      rw [Hst.out, decide_eq_true (by omega)]; rfl)
  clear Hyes Hno Hst Hhv Hnv
  go_wp2
  exact bodyPost_ret (results_row_tmp (p := 14) (u := 15) (ty := 77) rfl _ _ (w.heap.size + 1) 77 _ (0, 0) _ rfl (HS5.out _ _ _ _ _) Tryz.underlying77 rfl (by kernel_rfl)) rfl R
end
section
open C Go.RowKit

theorem info77 : (Tryz.prog.info? 77).map (fun i => (i.zero, i.size, i.bytes)) = some (some (.agg #[.int .i64 0, .int .i64 0, .int .i64 0, .int .i64 0, .int .i64 0]), 5, 40) := by kernel_rfl
theorem cell_five_new (W : World) (T : TypeId) (a b c d e : Value) : ∀ (j : Nat) (y : Value), [a, b, c, d, e][j]? = some y → (W.alloc (.cells #[a, b, c, d, e] T)).cell? (Addr.add ⟨W.heap.size, 0, none⟩ j) = some y := by
  intro j y h
  have e' := cell_of_row (W.alloc (.cells #[a, b, c, d, e] T)) W.heap.size j _ T (0, 0) (heap_alloc_new W _)
  match j with
  | 0 => simpa [Addr.add] using e'.trans h
  | 1 => simpa [Addr.add] using e'.trans h
  | 2 => simpa [Addr.add] using e'.trans h
  | 3 => simpa [Addr.add] using e'.trans h
  | 4 => simpa [Addr.add] using e'.trans h
  | j + 5 => simp at h
def rowV (t : Thing) : List Value := [.int .i64 (t.s : Int), .int .i64 t.x, .int .i64 t.z, .int .i64 t.h, .int .i64 t.l]
/-- Features as a row. -/
def flatT (l : List Thing) : List Value := l.flatMap rowV
theorem flatT_snoc (l : List Thing) (t : Thing) : flatT (l ++ [t]) = flatT l ++ rowV t := by simp [flatT]
theorem flatT_get : ∀ (l : List Thing) (k : Nat) (t : Thing), l[k]? = some t → ∀ j, j < 5 → (flatT l)[k * 5 + j]? = (rowV t)[j]?
  | [], k, p, h => by simp at h
  | q :: l, 0, p, h => fun j hj => by
    simp at h
    subst h
    have e : flatT (q :: l) = rowV q ++ flatT l := by simp [flatT]
    rw [e, Nat.zero_mul, Nat.zero_add, List.getElem?_append_left (by simpa [rowV] using hj)]
  | q :: l, k + 1, p, h => fun j hj => by
    have := flatT_get l k p (by simpa using h) j hj
    have e : flatT (q :: l) = rowV q ++ flatT l := by simp [flatT]
    rw [e, List.getElem?_append_right (by simp [rowV]; omega), show (k + 1) * 5 + j - (rowV q).length = k * 5 + j by simp [rowV]; omega]
    exact this
/-- A row of features of one's own, in a slice. -/
def OwnT (w : World) (B : Nat) (v : Value) (l : List Thing) : Prop := ∃ a c, v = .slice a l.length c ∧ w.ownsRow B 77 5 v l.length (flatT l)
theorem OwnT.on {w w' : World} {B : Nat} {v : Value} {l : List Thing} (h : OwnT w B v l) (hb : Below w.heap.size w w') : OwnT w' B v l := by
  obtain ⟨a, c, e, hr⟩ := h
  exact ⟨a, c, e, ownsRow_on hr hb⟩
/-- One feature more at the end. -/
theorem wpList_append_thing {w : World} {ops : Array Oper} {rest : List Oper} {o : Oper} {a : Act} {Q : Exit → Act → World → Prop} (hgd : o.guard = none) (s x : Operand) (ho : o.op = .call { callee := .builtin .append, args := #[s, x], argTypes := #[74, 74] })
    (B : Nat) (v : Value) (l : List Thing) (t : Thing) (hs : a.eval s = v) (hown : OwnT w B v l) (g : Nat) (hx : a.eval x = .slice (some ⟨g, 0, none⟩) 1 1) (hg : g = w.heap.size) (hle : l.length ≤ 100000) (hB : B ≤ w.heap.size)
    (h : ∀ v' w', OwnT w' B v' (l ++ [t]) → Below B w w' → wpList Tryz.prog ops Q rest (a.put o.dst v') w') : wpList Tryz.prog ops Q (o :: rest) a (w.alloc (.cells #[.int .i64 (t.s : Int), .int .i64 t.x, .int .i64 t.z, .int .i64 t.h, .int .i64 t.l] 77)) := by
  obtain ⟨i, hi, hz0, hz1, hz2⟩ := info_parts info77
  subst hg
  obtain ⟨av, cv, rfl, hr⟩ := hown
  have hr2 := ownsRow_on hr ((Below.refl w.heap.size w).alloc (Nat.le_refl _) (.cells #[.int .i64 (t.s : Int), .int .i64 t.x, .int .i64 t.z, .int .i64 t.h, .int .i64 t.l] 77))
  refine wpList_append_own_at _ hgd s x 74 ho B 77 i _ 5 40 Tryz.underlying74 hi hz0 hz1 hz2 rfl (by decide) _ _ _ hs hr2 ⟨w.heap.size, 0, none⟩ 1 1 (rowV t) hx rfl (cell_five_new w 77 _ _ _ _ _) (by simp [rowV, Value.oneCell']) (by unfold maxLen; omega) (by omega) (by simp; omega) ?_
  intro v' w' h1 h2 _ _
  have e : ∃ a' c', v' = .slice a' (l ++ [t]).length c' := by
    rw [List.length_append, List.length_singleton]
    rcases h1.2 with ⟨hv, hn⟩ | ⟨g, cap, _, hv, _⟩
    · omega
    · exact ⟨_, _, hv⟩
  obtain ⟨a', c', rfl⟩ := e
  refine h _ w' ⟨a', c', rfl, ?_⟩ ?_
  · rw [flatT_snoc, List.length_append, List.length_singleton] at *
    exact h1
  · refine ((Below.refl B w).alloc hB _).grown h2 (by simp; omega) fun j ej => ?_
    rcases hr.2 with ⟨hv, _⟩ | ⟨g, cap, cur, hv, hbg, _⟩
    · rw [hv] at ej
      simp [Value.ownBlock] at ej
    · rw [hv] at ej
      obtain rfl : g = j := by simpa [Value.ownBlock] using ej
      exact hbg
/-! ### how many origins -/
theorem many_le (s : Nat) (c : Int) : many s c ≤ 4 ∧ ((many s c : Nat) : Int) = (c * 16 + 17) / side s - lo s c + 1 := by
  unfold many lo
  rcases side_cases s with e | e | e <;> rw [e] <;> omega
def preT (S : Nat) (cx cz : Int) (hs bs : List (List Int)) : Nat → List Thing
  | 0 => []
  | s + 1 => preT S cx cz hs bs s ++ sortT S cx cz hs bs s
theorem pre3 (S : Nat) (cx cz : Int) (hs bs : List (List Int)) : preT S cx cz hs bs 3 = things S cx cz hs bs := by
  show (([] ++ sortT S cx cz hs bs 0) ++ sortT S cx cz hs bs 1) ++ sortT S cx cz hs bs 2 = _
  rw [List.nil_append]
  rfl
/-- What Things answers. -/
def RhSay (S : Nat) (cx cz : Int) (hs bs : List (List Int)) (w : World) (e : Ending) (w' : World) : Prop :=
  Below w.heap.size w w' ∧ (things S cx cz hs bs).length ≤ 300 ∧ ∃ v, e = .returned v ∧ OwnT w' w.heap.size v (things S cx cz hs bs)
theorem OwnT.base {w : World} {B B' : Nat} {v : Value} {l : List Thing} (h : OwnT w B v l) (hb : B' ≤ B) : OwnT w B' v l := by
  obtain ⟨a, c, e, hr⟩ := h
  refine ⟨a, c, e, hr.1, ?_⟩
  rcases hr.2 with h0 | ⟨g, cap, cur, hv, hbg, hr⟩
  · exact .inl h0
  · exact .inr ⟨g, cap, cur, hv, Nat.le_trans hb hbg, hr⟩
set_option maxRecDepth 100000 in
set_option maxHeartbeats 8000000 in
theorem rthings_c (S : Nat) (cx cz : Int) (a a' : Option Addr) (c c' : Nat) (hs bs : List (List Int)) (w : World) (hS : S < 18446744073709551616) (hcx : -1073741825 ≤ cx ∧ cx ≤ 1073741825) (hcz : -1073741825 ≤ cz ∧ cz ≤ 1073741825)
    (hH : Rows2 w a hs) (hB : Rows2 w a' bs) (oH : okG 128 hs) (oB : okG 4 bs) :
    Calls Tryz.prog 27 #[.int .u64 S, .agg #[.int .i64 cx, .int .i64 cz], .slice a 9 c, .slice a' 9 c'] w (RhSay S cx cz hs bs w) := by
  obtain ⟨Post, hPost⟩ : ∃ Post : Ending → World → Prop, Post = RhSay S cx cz hs bs w := ⟨_, rfl⟩
  rw [← hPost]
  have HP : Hid (∀ e w', RhSay S cx cz hs bs w e w' → Post e w') := fun e w' h => by rw [hPost]; exact h
  clear hPost
  have HHs : Hid (Rows2 w a hs ∧ okG 128 hs) := ⟨hH, oH⟩
  have HBs : Hid (Rows2 w a' bs ∧ okG 4 bs) := ⟨hB, oB⟩
  have HB0 : Hid (Below w.heap.size w ((w.alloc (.cells #[.int .i64 cx, .int .i64 cz] 24)).alloc (.cells #[.int .i64 32, .int .i64 16, .int .i64 8] 107))) := below_two w _ _
  have HX0 : Hid (((w.alloc (.cells #[.int .i64 cx, .int .i64 cz] 24)).alloc (.cells #[.int .i64 32, .int .i64 16, .int .i64 8] 107)).heap[w.heap.size]? = some (.cells #[.int .i64 cx, .int .i64 cz] 24 (0, 0))) := (heap_alloc_old _ _ (by simp)).trans (heap_alloc_new w _)
  have HA0 : Hid (((w.alloc (.cells #[.int .i64 cx, .int .i64 cz] 24)).alloc (.cells #[.int .i64 32, .int .i64 16, .int .i64 8] 107)).heap[w.heap.size + 1]? = some (.cells #[.int .i64 32, .int .i64 16, .int .i64 8] 107 (0, 0))) := new_two w _ _
  clear hH hB oH oB
  obtain ⟨cx0, cx1⟩ := hcx
  obtain ⟨cz0, cz1⟩ := hcz
  go_enter Tryz.func27, Tryz.ntmps27
  go_wp2
  generalize (w.alloc (.cells #[.int .i64 cx, .int .i64 cz] 24)).alloc (.cells #[.int .i64 32, .int .i64 16, .int .i64 8] 107) = W0 at *
  go_loopw [9, 11] (fun vl vs wr => ∃ s : Nat, s ≤ 3 ∧ vs = .int .i64 (s : Int) ∧ Hid (OwnT wr W0.heap.size vl (preT S cx cz hs bs s) ∧ (preT S cx cz hs bs s).length ≤ 100 * s) ∧ Hid (Below W0.heap.size W0 wr)) (fun _ vs _ => 3 - (intOf vs).toNat)
  case atStart => exact ⟨0, by omega, rfl, ⟨⟨none, 0, rfl, World.ownsRow_nil _ _ _ _⟩, Nat.le_refl _⟩, Below.refl _ _⟩
  case round =>
    obtain ⟨s, hs3, rfl, HL, HB⟩ := hrel
    rcases s with _ | _ | _ | s
    · obtain ⟨P, hP⟩ : ∃ P, preT S cx cz hs bs 0 = P := ⟨_, rfl⟩
      have HPre : Hid (preT S cx cz hs bs 1 = P ++ rowT (fun oz => rowT (fun ox => (thingN S 0 cx cz hs bs ox oz).toList) (lo 0 cx) (many 0 cx)) (lo 0 cz) (many 0 cz)) := by show preT S cx cz hs bs 0 ++ sortT S cx cz hs bs 0 = _; rw [hP]; rfl
      have HLP : Hid (OwnT wr W0.heap.size u9 P ∧ P.length ≤ 0) := by show OwnT _ _ _ _ ∧ _; rw [← hP]; exact HL.out
      clear HL hP
      obtain ⟨lz, hlz⟩ : ∃ l, lo 0 cz = l := ⟨_, rfl⟩
      obtain ⟨lx, hlx⟩ : ∃ l, lo 0 cx = l := ⟨_, rfl⟩
      obtain ⟨nz, hnz⟩ : ∃ n, many 0 cz = n := ⟨_, rfl⟩
      obtain ⟨nx, hnx⟩ : ∃ n, many 0 cx = n := ⟨_, rfl⟩
      rw [hlz, hlx, hnz, hnx] at HPre
      have d1 : (cz * 16 - 2) / 32 = lz := hlz
      have d3 : (cx * 16 - 2) / 32 = lx := hlx
      have m1 := many_le 0 cz
      have m2 := many_le 0 cx
      rw [hnz, hlz] at m1
      rw [hnx, hlx] at m2
      have Hdz : Hid (∀ w, Calls Tryz.prog 48 #[.int .i64 (cz * 16 - 2), .int .i64 32] w fun e w' => e = .returned (.int .i64 lz) ∧ w' = w) := fun w => by rw [← d1]; exact N.rdiv_hi _ 32 w (by decide) (by decide) (by omega) (by omega)
      have Hdx : Hid (∀ w, Calls Tryz.prog 48 #[.int .i64 (cx * 16 - 2), .int .i64 32] w fun e w' => e = .returned (.int .i64 lx) ∧ w' = w) := fun w => by rw [← d3]; exact N.rdiv_hi _ 32 w (by decide) (by decide) (by omega) (by omega)
      obtain ⟨ez, hez⟩ : ∃ e, (cz * 16 + 17) / 32 = e := ⟨_, rfl⟩
      obtain ⟨ex, hex⟩ : ∃ e, (cx * 16 + 17) / 32 = e := ⟨_, rfl⟩
      have Hez : Hid (∀ w, Calls Tryz.prog 48 #[.int .i64 (cz * 16 + 17), .int .i64 32] w fun e w' => e = .returned (.int .i64 ez) ∧ w' = w) := fun w => by rw [← hez]; exact N.rdiv_hi _ 32 w (by decide) (by decide) (by omega) (by omega)
      have Hex : Hid (∀ w, Calls Tryz.prog 48 #[.int .i64 (cx * 16 + 17), .int .i64 32] w fun e w' => e = .returned (.int .i64 ex) ∧ w' = w) := fun w => by rw [← hex]; exact N.rdiv_hi _ 32 w (by decide) (by decide) (by omega) (by omega)
      have hz2 : ((nz : Nat) : Int) = ez - lz + 1 := by rw [← hez]; exact m1.2
      have hx2 : ((nx : Nat) : Int) = ex - lx + 1 := by rw [← hex]; exact m2.2
      have hzb : -10000000000 ≤ lz ∧ lz ≤ 10000000000 := by omega
      have hxb : -10000000000 ≤ lx ∧ lx ≤ 10000000000 := by omega
      obtain ⟨hzb0, hzb1⟩ := hzb
      obtain ⟨hxb0, hxb1⟩ := hxb
      have nz4 := m1.1
      have nx4 := m2.1
      clear hlz hlx hnz hnx d1 d3 m1 m2 hez hex
      have c0 : wr.cell? ⟨w.heap.size + 1, 0, none⟩ = some (.int .i64 32) := (cell_of_row wr (w.heap.size + 1) 0 _ 107 (0, 0) ((HB.out.block _ (Array.getElem?_eq_some_iff.1 HA0.out).1).trans HA0.out)).trans rfl
      have k1 : wr.cell? ⟨w.heap.size, 1, none⟩ = some (.int .i64 cz) := (cell_of_row wr w.heap.size 1 _ 24 (0, 0) ((HB.out.block _ (Array.getElem?_eq_some_iff.1 HX0.out).1).trans HX0.out)).trans rfl
      go_wp2_with fail
      refine (Hdz.out _).mono ?_
      rintro _ w1 ⟨rfl, hw⟩
      replace hw := hw.symm
      subst hw
      clear c0 k1 Hdz
      obtain ⟨wq, hwq⟩ : ∃ wq, wq = wr := ⟨_, rfl⟩
      subst hwq
      go_wp2_with fail
      go_loopw [9, 13] (fun vl vz wr => ∃ i : Nat, i ≤ nz ∧ vz = .int .i64 (lz + (i : Int)) ∧ Hid (OwnT wr W0.heap.size vl (P ++ rowT (fun oz => rowT (fun ox => (thingN S 0 cx cz hs bs ox oz).toList) lx nx) lz i) ∧ (P ++ rowT (fun oz => rowT (fun ox => (thingN S 0 cx cz hs bs ox oz).toList) lx nx) lz i).length ≤ 0 + 10 * i) ∧ Hid (Below W0.heap.size W0 wr)) (fun _ vz _ => (lz + (nz : Int) - intOf vz).toNat)
      case atStart => exact ⟨0, by omega, by simp, ⟨by show OwnT _ _ _ (P ++ []); rw [List.append_nil]; exact HLP.out.1, by show (P ++ []).length ≤ _; rw [List.append_nil]; exact HLP.out.2⟩, HB⟩
      case round =>
        clear HLP HB
        obtain ⟨i, hi, rfl, HLi, HB⟩ := hrel
        have k1 : wr.cell? ⟨w.heap.size, 1, none⟩ = some (.int .i64 cz) := (cell_of_row wr w.heap.size 1 _ 24 (0, 0) ((HB.out.block _ (Array.getElem?_eq_some_iff.1 HX0.out).1).trans HX0.out)).trans rfl
        have k0 : wr.cell? ⟨w.heap.size, 0, none⟩ = some (.int .i64 cx) := (cell_of_row wr w.heap.size 0 _ 24 (0, 0) ((HB.out.block _ (Array.getElem?_eq_some_iff.1 HX0.out).1).trans HX0.out)).trans rfl
        go_wp2_with fail
        refine (Hez.out _).mono ?_
        rintro _ w1 ⟨rfl, hw⟩
        replace hw := hw.symm
        subst hw
        by_cases hlt : i < nz
        case neg =>
          have hge : ¬ lz + (i : Int) ≤ ez := by omega
          obtain rfl : i = nz := by omega
          have HL2 : Hid (OwnT wr W0.heap.size u9 (preT S cx cz hs bs 1) ∧ (preT S cx cz hs bs 1).length ≤ 100 * 1) := by
            show _ ∧ _
            rw [HPre.out]
            exact ⟨HLi.out.1, by have := HLi.out.2; omega⟩
          clear HLi HPre k0 k1 Hez Hex Hdx
          go_wp2
          exact ⟨⟨1, by omega, by simp, HL2, HB⟩, by simp [intOf]⟩
        have hle : lz + (i : Int) ≤ ez := by omega
        go_wp2_with fail
        refine (Hdx.out _).mono ?_
        rintro _ w1 ⟨rfl, hw⟩
        replace hw := hw.symm
        subst hw
        clear k0 k1
        obtain ⟨A, hA⟩ : ∃ A, P ++ rowT (fun oz => rowT (fun ox => (thingN S 0 cx cz hs bs ox oz).toList) lx nx) lz i = A := ⟨_, rfl⟩
        have HA1 : Hid (P ++ rowT (fun oz => rowT (fun ox => (thingN S 0 cx cz hs bs ox oz).toList) lx nx) lz (i + 1) = A ++ rowT (fun ox => (thingN S 0 cx cz hs bs ox (lz + (i : Int))).toList) lx nx) := by
          show P ++ (rowT _ lz i ++ _) = _
          rw [← List.append_assoc, hA]
        rw [hA] at HLi
        clear hA
        obtain ⟨wq, hwq⟩ : ∃ wq, wq = wr := ⟨_, rfl⟩
        subst hwq
        go_wp2_with fail
        go_loopw [9, 14] (fun vl vx wr => ∃ j : Nat, j ≤ nx ∧ vx = .int .i64 (lx + (j : Int)) ∧ Hid (OwnT wr W0.heap.size vl (A ++ rowT (fun ox => (thingN S 0 cx cz hs bs ox (lz + (i : Int))).toList) lx j) ∧ (A ++ rowT (fun ox => (thingN S 0 cx cz hs bs ox (lz + (i : Int))).toList) lx j).length ≤ 0 + 10 * i + j) ∧ Hid (Below W0.heap.size W0 wr)) (fun _ vx _ => (lx + (nx : Int) - intOf vx).toNat)
        case atStart => exact ⟨0, by omega, by simp, ⟨by show OwnT _ _ _ (A ++ []); rw [List.append_nil]; exact HLi.out.1, by show (A ++ []).length ≤ _; rw [List.append_nil]; exact HLi.out.2⟩, HB⟩
        case round =>
          clear HLi HB
          obtain ⟨j, hj, rfl, HLj, HB⟩ := hrel
          have k0 : wr.cell? ⟨w.heap.size, 0, none⟩ = some (.int .i64 cx) := (cell_of_row wr w.heap.size 0 _ 24 (0, 0) ((HB.out.block _ (Array.getElem?_eq_some_iff.1 HX0.out).1).trans HX0.out)).trans rfl
          have k1 : wr.cell? ⟨w.heap.size, 1, none⟩ = some (.int .i64 cz) := (cell_of_row wr w.heap.size 1 _ 24 (0, 0) ((HB.out.block _ (Array.getElem?_eq_some_iff.1 HX0.out).1).trans HX0.out)).trans rfl
          go_wp2_with fail
          refine (Hex.out _).mono ?_
          rintro _ w1 ⟨rfl, hw⟩
          replace hw := hw.symm
          subst hw
          by_cases hlj : j < nx
          case neg =>
            have hge : ¬ lx + (j : Int) ≤ ex := by omega
            obtain rfl : j = nx := by omega
            have HL2 : Hid (OwnT wr W0.heap.size u9 (P ++ rowT (fun oz => rowT (fun ox => (thingN S 0 cx cz hs bs ox oz).toList) lx j) lz (i + 1)) ∧ (P ++ rowT (fun oz => rowT (fun ox => (thingN S 0 cx cz hs bs ox oz).toList) lx j) lz (i + 1)).length ≤ 0 + 10 * (i + 1)) := by
              show _ ∧ _
              rw [HA1.out]
              exact ⟨HLj.out.1, by have := HLj.out.2; omega⟩
            clear HLj HPre HA1 k0 k1 Hez Hex Hdx
            go_wp2
            exact ⟨⟨i + 1, by omega, by simp; omega, HL2, HB⟩, by simp [intOf]; omega⟩
          have hlj' : lx + (j : Int) ≤ ex := by omega
          have HBw : Hid (Below w.heap.size w wr) := HB0.out.trans (HB.out.mono HB0.out.size)
          have hth := rthing0_c S cx cz (lx + (j : Int)) (lz + (i : Int)) a a' c c' hs bs wr hS (by omega) (by omega) (by omega) (by omega) (HHs.out.1.on HBw.out) (HBs.out.1.on HBw.out) HHs.out.2 HBs.out.2
          have HRow : Hid (A ++ rowT (fun ox => (thingN S 0 cx cz hs bs ox (lz + (i : Int))).toList) lx (j + 1) = (A ++ rowT (fun ox => (thingN S 0 cx cz hs bs ox (lz + (i : Int))).toList) lx j) ++ (thingN S 0 cx cz hs bs (lx + (j : Int)) (lz + (i : Int))).toList) := by show A ++ (rowT _ lx j ++ _) = _; rw [← List.append_assoc]
          obtain ⟨D, hD⟩ : ∃ D, A ++ rowT (fun ox => (thingN S 0 cx cz hs bs ox (lz + (i : Int))).toList) lx j = D := ⟨_, rfl⟩
          rw [hD] at HLj HRow
          clear hD
          obtain ⟨o, ho⟩ : ∃ o, thingN S 0 cx cz hs bs (lx + (j : Int)) (lz + (i : Int)) = o := ⟨_, rfl⟩
          rw [ho] at hth HRow
          clear ho
          go_wp2_with fail
          refine hth.mono ?_
          clear hth k0 k1
          rintro _ w2 hsay
          obtain ⟨hb2, v0, v1, v2, v3, v4, rfl, hsm⟩ := hsay
          have HB2 : Hid (Below W0.heap.size W0 w2) := HB.out.trans (hb2.mono HB.out.size)
          have HL2 : Hid (OwnT w2 W0.heap.size u9 D ∧ D.length ≤ 0 + 10 * i + j) := ⟨HLj.out.1.on hb2, HLj.out.2⟩
          clear hb2 HB HLj HBw
          rcases o with _ | t
          · have HL3 : Hid (OwnT (w2.alloc (.cells #[.int .i64 v0, .int .i64 v1, .int .i64 v2, .int .i64 v3, .int .i64 v4] 77)) W0.heap.size u9 (A ++ rowT (fun ox => (thingN S 0 cx cz hs bs ox (lz + (i : Int))).toList) lx (j + 1)) ∧ (A ++ rowT (fun ox => (thingN S 0 cx cz hs bs ox (lz + (i : Int))).toList) lx (j + 1)).length ≤ 0 + 10 * i + (j + 1)) := by
              show _ ∧ _
              rw [HRow.out]
              show OwnT _ _ _ (D ++ []) ∧ (D ++ []).length ≤ _
              rw [List.append_nil]
              exact ⟨HL2.out.1.on ((Below.refl _ _).alloc (Nat.le_refl _) _), by have := HL2.out.2; omega⟩
            have HB3 : Hid (Below W0.heap.size W0 (w2.alloc (.cells #[.int .i64 v0, .int .i64 v1, .int .i64 v2, .int .i64 v3, .int .i64 v4] 77))) := HB2.out.alloc HB2.out.size _
            clear hsm HL2 HB2 HRow HPre HA1
            go_wp2
            exact ⟨⟨j + 1, by omega, by simp; omega, HL3, HB3⟩, by simp [intOf]; omega⟩
          · obtain ⟨rfl, rfl, rfl, rfl, rfl⟩ := hsm t rfl
            clear hsm
            have HL3 : Hid (OwnT (w2.alloc (.cells #[.int .i64 (t.s : Int), .int .i64 t.x, .int .i64 t.z, .int .i64 t.h, .int .i64 t.l] 77)) W0.heap.size u9 D) := HL2.out.1.on ((Below.refl _ _).alloc (Nat.le_refl _) _)
            have HB3 : Hid (Below W0.heap.size W0 (w2.alloc (.cells #[.int .i64 (t.s : Int), .int .i64 t.x, .int .i64 t.z, .int .i64 t.h, .int .i64 t.l] 77))) := HB2.out.alloc HB2.out.size _
            have HR2 : Hid (A ++ rowT (fun ox => (thingN S 0 cx cz hs bs ox (lz + (i : Int))).toList) lx (j + 1) = D ++ [t]) := HRow.out
            have hDl : D.length ≤ 100000 := by have := HL2.out.2; omega
            clear HRow HPre HA1
            go_wp2_with (at_builtin; refine wpList_append_thing rfl _ _ rfl W0.heap.size u9 D t rfl HL3.out _ rfl (by simp) hDl HB3.out.size ?_; intro v' w3 hO3 hb3)
            have HL4 : Hid (OwnT w3 W0.heap.size v' (A ++ rowT (fun ox => (thingN S 0 cx cz hs bs ox (lz + (i : Int))).toList) lx (j + 1)) ∧ (A ++ rowT (fun ox => (thingN S 0 cx cz hs bs ox (lz + (i : Int))).toList) lx (j + 1)).length ≤ 0 + 10 * i + (j + 1)) := by
              show _ ∧ _
              rw [HR2.out]
              exact ⟨hO3, by rw [List.length_append, List.length_singleton]; have := HL2.out.2; omega⟩
            have HB4 : Hid (Below W0.heap.size W0 w3) := HB3.out.trans hb3
            exact ⟨⟨j + 1, by omega, by simp; omega, HL4, HB4⟩, by simp [intOf]; omega⟩
    · obtain ⟨P, hP⟩ : ∃ P, preT S cx cz hs bs 1 = P := ⟨_, rfl⟩
      have HPre : Hid (preT S cx cz hs bs 2 = P ++ rowT (fun oz => rowT (fun ox => (thingN S 1 cx cz hs bs ox oz).toList) (lo 1 cx) (many 1 cx)) (lo 1 cz) (many 1 cz)) := by show preT S cx cz hs bs 1 ++ sortT S cx cz hs bs 1 = _; rw [hP]; rfl
      have HLP : Hid (OwnT wr W0.heap.size u9 P ∧ P.length ≤ 100) := by show OwnT _ _ _ _ ∧ _; rw [← hP]; exact HL.out
      clear HL hP
      obtain ⟨lz, hlz⟩ : ∃ l, lo 1 cz = l := ⟨_, rfl⟩
      obtain ⟨lx, hlx⟩ : ∃ l, lo 1 cx = l := ⟨_, rfl⟩
      obtain ⟨nz, hnz⟩ : ∃ n, many 1 cz = n := ⟨_, rfl⟩
      obtain ⟨nx, hnx⟩ : ∃ n, many 1 cx = n := ⟨_, rfl⟩
      rw [hlz, hlx, hnz, hnx] at HPre
      have d1 : (cz * 16 - 2) / 16 = lz := hlz
      have d3 : (cx * 16 - 2) / 16 = lx := hlx
      have m1 := many_le 1 cz
      have m2 := many_le 1 cx
      rw [hnz, hlz] at m1
      rw [hnx, hlx] at m2
      have Hdz : Hid (∀ w, Calls Tryz.prog 48 #[.int .i64 (cz * 16 - 2), .int .i64 16] w fun e w' => e = .returned (.int .i64 lz) ∧ w' = w) := fun w => by rw [← d1]; exact N.rdiv_hi _ 16 w (by decide) (by decide) (by omega) (by omega)
      have Hdx : Hid (∀ w, Calls Tryz.prog 48 #[.int .i64 (cx * 16 - 2), .int .i64 16] w fun e w' => e = .returned (.int .i64 lx) ∧ w' = w) := fun w => by rw [← d3]; exact N.rdiv_hi _ 16 w (by decide) (by decide) (by omega) (by omega)
      obtain ⟨ez, hez⟩ : ∃ e, (cz * 16 + 17) / 16 = e := ⟨_, rfl⟩
      obtain ⟨ex, hex⟩ : ∃ e, (cx * 16 + 17) / 16 = e := ⟨_, rfl⟩
      have Hez : Hid (∀ w, Calls Tryz.prog 48 #[.int .i64 (cz * 16 + 17), .int .i64 16] w fun e w' => e = .returned (.int .i64 ez) ∧ w' = w) := fun w => by rw [← hez]; exact N.rdiv_hi _ 16 w (by decide) (by decide) (by omega) (by omega)
      have Hex : Hid (∀ w, Calls Tryz.prog 48 #[.int .i64 (cx * 16 + 17), .int .i64 16] w fun e w' => e = .returned (.int .i64 ex) ∧ w' = w) := fun w => by rw [← hex]; exact N.rdiv_hi _ 16 w (by decide) (by decide) (by omega) (by omega)
      have hz2 : ((nz : Nat) : Int) = ez - lz + 1 := by rw [← hez]; exact m1.2
      have hx2 : ((nx : Nat) : Int) = ex - lx + 1 := by rw [← hex]; exact m2.2
      have hzb : -10000000000 ≤ lz ∧ lz ≤ 10000000000 := by omega
      have hxb : -10000000000 ≤ lx ∧ lx ≤ 10000000000 := by omega
      obtain ⟨hzb0, hzb1⟩ := hzb
      obtain ⟨hxb0, hxb1⟩ := hxb
      have nz4 := m1.1
      have nx4 := m2.1
      clear hlz hlx hnz hnx d1 d3 m1 m2 hez hex
      have c0 : wr.cell? ⟨w.heap.size + 1, 1, none⟩ = some (.int .i64 16) := (cell_of_row wr (w.heap.size + 1) 1 _ 107 (0, 0) ((HB.out.block _ (Array.getElem?_eq_some_iff.1 HA0.out).1).trans HA0.out)).trans rfl
      have k1 : wr.cell? ⟨w.heap.size, 1, none⟩ = some (.int .i64 cz) := (cell_of_row wr w.heap.size 1 _ 24 (0, 0) ((HB.out.block _ (Array.getElem?_eq_some_iff.1 HX0.out).1).trans HX0.out)).trans rfl
      go_wp2_with fail
      refine (Hdz.out _).mono ?_
      rintro _ w1 ⟨rfl, hw⟩
      replace hw := hw.symm
      subst hw
      clear c0 k1 Hdz
      obtain ⟨wq, hwq⟩ : ∃ wq, wq = wr := ⟨_, rfl⟩
      subst hwq
      go_wp2_with fail
      go_loopw [9, 13] (fun vl vz wr => ∃ i : Nat, i ≤ nz ∧ vz = .int .i64 (lz + (i : Int)) ∧ Hid (OwnT wr W0.heap.size vl (P ++ rowT (fun oz => rowT (fun ox => (thingN S 1 cx cz hs bs ox oz).toList) lx nx) lz i) ∧ (P ++ rowT (fun oz => rowT (fun ox => (thingN S 1 cx cz hs bs ox oz).toList) lx nx) lz i).length ≤ 100 + 10 * i) ∧ Hid (Below W0.heap.size W0 wr)) (fun _ vz _ => (lz + (nz : Int) - intOf vz).toNat)
      case atStart => exact ⟨0, by omega, by simp, ⟨by show OwnT _ _ _ (P ++ []); rw [List.append_nil]; exact HLP.out.1, by show (P ++ []).length ≤ _; rw [List.append_nil]; exact HLP.out.2⟩, HB⟩
      case round =>
        clear HLP HB
        obtain ⟨i, hi, rfl, HLi, HB⟩ := hrel
        have k1 : wr.cell? ⟨w.heap.size, 1, none⟩ = some (.int .i64 cz) := (cell_of_row wr w.heap.size 1 _ 24 (0, 0) ((HB.out.block _ (Array.getElem?_eq_some_iff.1 HX0.out).1).trans HX0.out)).trans rfl
        have k0 : wr.cell? ⟨w.heap.size, 0, none⟩ = some (.int .i64 cx) := (cell_of_row wr w.heap.size 0 _ 24 (0, 0) ((HB.out.block _ (Array.getElem?_eq_some_iff.1 HX0.out).1).trans HX0.out)).trans rfl
        go_wp2_with fail
        refine (Hez.out _).mono ?_
        rintro _ w1 ⟨rfl, hw⟩
        replace hw := hw.symm
        subst hw
        by_cases hlt : i < nz
        case neg =>
          have hge : ¬ lz + (i : Int) ≤ ez := by omega
          obtain rfl : i = nz := by omega
          have HL2 : Hid (OwnT wr W0.heap.size u9 (preT S cx cz hs bs 2) ∧ (preT S cx cz hs bs 2).length ≤ 100 * 2) := by
            show _ ∧ _
            rw [HPre.out]
            exact ⟨HLi.out.1, by have := HLi.out.2; omega⟩
          clear HLi HPre k0 k1 Hez Hex Hdx
          go_wp2
          exact ⟨⟨2, by omega, by simp, HL2, HB⟩, by simp [intOf]⟩
        have hle : lz + (i : Int) ≤ ez := by omega
        go_wp2_with fail
        refine (Hdx.out _).mono ?_
        rintro _ w1 ⟨rfl, hw⟩
        replace hw := hw.symm
        subst hw
        clear k0 k1
        obtain ⟨A, hA⟩ : ∃ A, P ++ rowT (fun oz => rowT (fun ox => (thingN S 1 cx cz hs bs ox oz).toList) lx nx) lz i = A := ⟨_, rfl⟩
        have HA1 : Hid (P ++ rowT (fun oz => rowT (fun ox => (thingN S 1 cx cz hs bs ox oz).toList) lx nx) lz (i + 1) = A ++ rowT (fun ox => (thingN S 1 cx cz hs bs ox (lz + (i : Int))).toList) lx nx) := by
          show P ++ (rowT _ lz i ++ _) = _
          rw [← List.append_assoc, hA]
        rw [hA] at HLi
        clear hA
        obtain ⟨wq, hwq⟩ : ∃ wq, wq = wr := ⟨_, rfl⟩
        subst hwq
        go_wp2_with fail
        go_loopw [9, 14] (fun vl vx wr => ∃ j : Nat, j ≤ nx ∧ vx = .int .i64 (lx + (j : Int)) ∧ Hid (OwnT wr W0.heap.size vl (A ++ rowT (fun ox => (thingN S 1 cx cz hs bs ox (lz + (i : Int))).toList) lx j) ∧ (A ++ rowT (fun ox => (thingN S 1 cx cz hs bs ox (lz + (i : Int))).toList) lx j).length ≤ 100 + 10 * i + j) ∧ Hid (Below W0.heap.size W0 wr)) (fun _ vx _ => (lx + (nx : Int) - intOf vx).toNat)
        case atStart => exact ⟨0, by omega, by simp, ⟨by show OwnT _ _ _ (A ++ []); rw [List.append_nil]; exact HLi.out.1, by show (A ++ []).length ≤ _; rw [List.append_nil]; exact HLi.out.2⟩, HB⟩
        case round =>
          clear HLi HB
          obtain ⟨j, hj, rfl, HLj, HB⟩ := hrel
          have k0 : wr.cell? ⟨w.heap.size, 0, none⟩ = some (.int .i64 cx) := (cell_of_row wr w.heap.size 0 _ 24 (0, 0) ((HB.out.block _ (Array.getElem?_eq_some_iff.1 HX0.out).1).trans HX0.out)).trans rfl
          have k1 : wr.cell? ⟨w.heap.size, 1, none⟩ = some (.int .i64 cz) := (cell_of_row wr w.heap.size 1 _ 24 (0, 0) ((HB.out.block _ (Array.getElem?_eq_some_iff.1 HX0.out).1).trans HX0.out)).trans rfl
          go_wp2_with fail
          refine (Hex.out _).mono ?_
          rintro _ w1 ⟨rfl, hw⟩
          replace hw := hw.symm
          subst hw
          by_cases hlj : j < nx
          case neg =>
            have hge : ¬ lx + (j : Int) ≤ ex := by omega
            obtain rfl : j = nx := by omega
            have HL2 : Hid (OwnT wr W0.heap.size u9 (P ++ rowT (fun oz => rowT (fun ox => (thingN S 1 cx cz hs bs ox oz).toList) lx j) lz (i + 1)) ∧ (P ++ rowT (fun oz => rowT (fun ox => (thingN S 1 cx cz hs bs ox oz).toList) lx j) lz (i + 1)).length ≤ 100 + 10 * (i + 1)) := by
              show _ ∧ _
              rw [HA1.out]
              exact ⟨HLj.out.1, by have := HLj.out.2; omega⟩
            clear HLj HPre HA1 k0 k1 Hez Hex Hdx
            go_wp2
            exact ⟨⟨i + 1, by omega, by simp; omega, HL2, HB⟩, by simp [intOf]; omega⟩
          have hlj' : lx + (j : Int) ≤ ex := by omega
          have HBw : Hid (Below w.heap.size w wr) := HB0.out.trans (HB.out.mono HB0.out.size)
          have hth := rthing1_c S cx cz (lx + (j : Int)) (lz + (i : Int)) a a' c c' hs bs wr hS (by omega) (by omega) (by omega) (by omega) (HHs.out.1.on HBw.out) (HBs.out.1.on HBw.out) HHs.out.2 HBs.out.2
          have HRow : Hid (A ++ rowT (fun ox => (thingN S 1 cx cz hs bs ox (lz + (i : Int))).toList) lx (j + 1) = (A ++ rowT (fun ox => (thingN S 1 cx cz hs bs ox (lz + (i : Int))).toList) lx j) ++ (thingN S 1 cx cz hs bs (lx + (j : Int)) (lz + (i : Int))).toList) := by show A ++ (rowT _ lx j ++ _) = _; rw [← List.append_assoc]
          obtain ⟨D, hD⟩ : ∃ D, A ++ rowT (fun ox => (thingN S 1 cx cz hs bs ox (lz + (i : Int))).toList) lx j = D := ⟨_, rfl⟩
          rw [hD] at HLj HRow
          clear hD
          obtain ⟨o, ho⟩ : ∃ o, thingN S 1 cx cz hs bs (lx + (j : Int)) (lz + (i : Int)) = o := ⟨_, rfl⟩
          rw [ho] at hth HRow
          clear ho
          go_wp2_with fail
          refine hth.mono ?_
          clear hth k0 k1
          rintro _ w2 hsay
          obtain ⟨hb2, v0, v1, v2, v3, v4, rfl, hsm⟩ := hsay
          have HB2 : Hid (Below W0.heap.size W0 w2) := HB.out.trans (hb2.mono HB.out.size)
          have HL2 : Hid (OwnT w2 W0.heap.size u9 D ∧ D.length ≤ 100 + 10 * i + j) := ⟨HLj.out.1.on hb2, HLj.out.2⟩
          clear hb2 HB HLj HBw
          rcases o with _ | t
          · have HL3 : Hid (OwnT (w2.alloc (.cells #[.int .i64 v0, .int .i64 v1, .int .i64 v2, .int .i64 v3, .int .i64 v4] 77)) W0.heap.size u9 (A ++ rowT (fun ox => (thingN S 1 cx cz hs bs ox (lz + (i : Int))).toList) lx (j + 1)) ∧ (A ++ rowT (fun ox => (thingN S 1 cx cz hs bs ox (lz + (i : Int))).toList) lx (j + 1)).length ≤ 100 + 10 * i + (j + 1)) := by
              show _ ∧ _
              rw [HRow.out]
              show OwnT _ _ _ (D ++ []) ∧ (D ++ []).length ≤ _
              rw [List.append_nil]
              exact ⟨HL2.out.1.on ((Below.refl _ _).alloc (Nat.le_refl _) _), by have := HL2.out.2; omega⟩
            have HB3 : Hid (Below W0.heap.size W0 (w2.alloc (.cells #[.int .i64 v0, .int .i64 v1, .int .i64 v2, .int .i64 v3, .int .i64 v4] 77))) := HB2.out.alloc HB2.out.size _
            clear hsm HL2 HB2 HRow HPre HA1
            go_wp2
            exact ⟨⟨j + 1, by omega, by simp; omega, HL3, HB3⟩, by simp [intOf]; omega⟩
          · obtain ⟨rfl, rfl, rfl, rfl, rfl⟩ := hsm t rfl
            clear hsm
            have HL3 : Hid (OwnT (w2.alloc (.cells #[.int .i64 (t.s : Int), .int .i64 t.x, .int .i64 t.z, .int .i64 t.h, .int .i64 t.l] 77)) W0.heap.size u9 D) := HL2.out.1.on ((Below.refl _ _).alloc (Nat.le_refl _) _)
            have HB3 : Hid (Below W0.heap.size W0 (w2.alloc (.cells #[.int .i64 (t.s : Int), .int .i64 t.x, .int .i64 t.z, .int .i64 t.h, .int .i64 t.l] 77))) := HB2.out.alloc HB2.out.size _
            have HR2 : Hid (A ++ rowT (fun ox => (thingN S 1 cx cz hs bs ox (lz + (i : Int))).toList) lx (j + 1) = D ++ [t]) := HRow.out
            have hDl : D.length ≤ 100000 := by have := HL2.out.2; omega
            clear HRow HPre HA1
            go_wp2_with (at_builtin; refine wpList_append_thing rfl _ _ rfl W0.heap.size u9 D t rfl HL3.out _ rfl (by simp) hDl HB3.out.size ?_; intro v' w3 hO3 hb3)
            have HL4 : Hid (OwnT w3 W0.heap.size v' (A ++ rowT (fun ox => (thingN S 1 cx cz hs bs ox (lz + (i : Int))).toList) lx (j + 1)) ∧ (A ++ rowT (fun ox => (thingN S 1 cx cz hs bs ox (lz + (i : Int))).toList) lx (j + 1)).length ≤ 100 + 10 * i + (j + 1)) := by
              show _ ∧ _
              rw [HR2.out]
              exact ⟨hO3, by rw [List.length_append, List.length_singleton]; have := HL2.out.2; omega⟩
            have HB4 : Hid (Below W0.heap.size W0 w3) := HB3.out.trans hb3
            exact ⟨⟨j + 1, by omega, by simp; omega, HL4, HB4⟩, by simp [intOf]; omega⟩
    · obtain ⟨P, hP⟩ : ∃ P, preT S cx cz hs bs 2 = P := ⟨_, rfl⟩
      have HPre : Hid (preT S cx cz hs bs 3 = P ++ rowT (fun oz => rowT (fun ox => (thingN S 2 cx cz hs bs ox oz).toList) (lo 2 cx) (many 2 cx)) (lo 2 cz) (many 2 cz)) := by show preT S cx cz hs bs 2 ++ sortT S cx cz hs bs 2 = _; rw [hP]; rfl
      have HLP : Hid (OwnT wr W0.heap.size u9 P ∧ P.length ≤ 200) := by show OwnT _ _ _ _ ∧ _; rw [← hP]; exact HL.out
      clear HL hP
      obtain ⟨lz, hlz⟩ : ∃ l, lo 2 cz = l := ⟨_, rfl⟩
      obtain ⟨lx, hlx⟩ : ∃ l, lo 2 cx = l := ⟨_, rfl⟩
      obtain ⟨nz, hnz⟩ : ∃ n, many 2 cz = n := ⟨_, rfl⟩
      obtain ⟨nx, hnx⟩ : ∃ n, many 2 cx = n := ⟨_, rfl⟩
      rw [hlz, hlx, hnz, hnx] at HPre
      have d1 : (cz * 16 - 2) / 8 = lz := hlz
      have d3 : (cx * 16 - 2) / 8 = lx := hlx
      have m1 := many_le 2 cz
      have m2 := many_le 2 cx
      rw [hnz, hlz] at m1
      rw [hnx, hlx] at m2
      have Hdz : Hid (∀ w, Calls Tryz.prog 48 #[.int .i64 (cz * 16 - 2), .int .i64 8] w fun e w' => e = .returned (.int .i64 lz) ∧ w' = w) := fun w => by rw [← d1]; exact N.rdiv_hi _ 8 w (by decide) (by decide) (by omega) (by omega)
      have Hdx : Hid (∀ w, Calls Tryz.prog 48 #[.int .i64 (cx * 16 - 2), .int .i64 8] w fun e w' => e = .returned (.int .i64 lx) ∧ w' = w) := fun w => by rw [← d3]; exact N.rdiv_hi _ 8 w (by decide) (by decide) (by omega) (by omega)
      obtain ⟨ez, hez⟩ : ∃ e, (cz * 16 + 17) / 8 = e := ⟨_, rfl⟩
      obtain ⟨ex, hex⟩ : ∃ e, (cx * 16 + 17) / 8 = e := ⟨_, rfl⟩
      have Hez : Hid (∀ w, Calls Tryz.prog 48 #[.int .i64 (cz * 16 + 17), .int .i64 8] w fun e w' => e = .returned (.int .i64 ez) ∧ w' = w) := fun w => by rw [← hez]; exact N.rdiv_hi _ 8 w (by decide) (by decide) (by omega) (by omega)
      have Hex : Hid (∀ w, Calls Tryz.prog 48 #[.int .i64 (cx * 16 + 17), .int .i64 8] w fun e w' => e = .returned (.int .i64 ex) ∧ w' = w) := fun w => by rw [← hex]; exact N.rdiv_hi _ 8 w (by decide) (by decide) (by omega) (by omega)
      have hz2 : ((nz : Nat) : Int) = ez - lz + 1 := by rw [← hez]; exact m1.2
      have hx2 : ((nx : Nat) : Int) = ex - lx + 1 := by rw [← hex]; exact m2.2
      have hzb : -10000000000 ≤ lz ∧ lz ≤ 10000000000 := by omega
      have hxb : -10000000000 ≤ lx ∧ lx ≤ 10000000000 := by omega
      obtain ⟨hzb0, hzb1⟩ := hzb
      obtain ⟨hxb0, hxb1⟩ := hxb
      have nz4 := m1.1
      have nx4 := m2.1
      clear hlz hlx hnz hnx d1 d3 m1 m2 hez hex
      have c0 : wr.cell? ⟨w.heap.size + 1, 2, none⟩ = some (.int .i64 8) := (cell_of_row wr (w.heap.size + 1) 2 _ 107 (0, 0) ((HB.out.block _ (Array.getElem?_eq_some_iff.1 HA0.out).1).trans HA0.out)).trans rfl
      have k1 : wr.cell? ⟨w.heap.size, 1, none⟩ = some (.int .i64 cz) := (cell_of_row wr w.heap.size 1 _ 24 (0, 0) ((HB.out.block _ (Array.getElem?_eq_some_iff.1 HX0.out).1).trans HX0.out)).trans rfl
      go_wp2_with fail
      refine (Hdz.out _).mono ?_
      rintro _ w1 ⟨rfl, hw⟩
      replace hw := hw.symm
      subst hw
      clear c0 k1 Hdz
      obtain ⟨wq, hwq⟩ : ∃ wq, wq = wr := ⟨_, rfl⟩
      subst hwq
      go_wp2_with fail
      go_loopw [9, 13] (fun vl vz wr => ∃ i : Nat, i ≤ nz ∧ vz = .int .i64 (lz + (i : Int)) ∧ Hid (OwnT wr W0.heap.size vl (P ++ rowT (fun oz => rowT (fun ox => (thingN S 2 cx cz hs bs ox oz).toList) lx nx) lz i) ∧ (P ++ rowT (fun oz => rowT (fun ox => (thingN S 2 cx cz hs bs ox oz).toList) lx nx) lz i).length ≤ 200 + 10 * i) ∧ Hid (Below W0.heap.size W0 wr)) (fun _ vz _ => (lz + (nz : Int) - intOf vz).toNat)
      case atStart => exact ⟨0, by omega, by simp, ⟨by show OwnT _ _ _ (P ++ []); rw [List.append_nil]; exact HLP.out.1, by show (P ++ []).length ≤ _; rw [List.append_nil]; exact HLP.out.2⟩, HB⟩
      case round =>
        clear HLP HB
        obtain ⟨i, hi, rfl, HLi, HB⟩ := hrel
        have k1 : wr.cell? ⟨w.heap.size, 1, none⟩ = some (.int .i64 cz) := (cell_of_row wr w.heap.size 1 _ 24 (0, 0) ((HB.out.block _ (Array.getElem?_eq_some_iff.1 HX0.out).1).trans HX0.out)).trans rfl
        have k0 : wr.cell? ⟨w.heap.size, 0, none⟩ = some (.int .i64 cx) := (cell_of_row wr w.heap.size 0 _ 24 (0, 0) ((HB.out.block _ (Array.getElem?_eq_some_iff.1 HX0.out).1).trans HX0.out)).trans rfl
        go_wp2_with fail
        refine (Hez.out _).mono ?_
        rintro _ w1 ⟨rfl, hw⟩
        replace hw := hw.symm
        subst hw
        by_cases hlt : i < nz
        case neg =>
          have hge : ¬ lz + (i : Int) ≤ ez := by omega
          obtain rfl : i = nz := by omega
          have HL2 : Hid (OwnT wr W0.heap.size u9 (preT S cx cz hs bs 3) ∧ (preT S cx cz hs bs 3).length ≤ 100 * 3) := by
            show _ ∧ _
            rw [HPre.out]
            exact ⟨HLi.out.1, by have := HLi.out.2; omega⟩
          clear HLi HPre k0 k1 Hez Hex Hdx
          go_wp2
          exact ⟨⟨3, by omega, by simp, HL2, HB⟩, by simp [intOf]⟩
        have hle : lz + (i : Int) ≤ ez := by omega
        go_wp2_with fail
        refine (Hdx.out _).mono ?_
        rintro _ w1 ⟨rfl, hw⟩
        replace hw := hw.symm
        subst hw
        clear k0 k1
        obtain ⟨A, hA⟩ : ∃ A, P ++ rowT (fun oz => rowT (fun ox => (thingN S 2 cx cz hs bs ox oz).toList) lx nx) lz i = A := ⟨_, rfl⟩
        have HA1 : Hid (P ++ rowT (fun oz => rowT (fun ox => (thingN S 2 cx cz hs bs ox oz).toList) lx nx) lz (i + 1) = A ++ rowT (fun ox => (thingN S 2 cx cz hs bs ox (lz + (i : Int))).toList) lx nx) := by
          show P ++ (rowT _ lz i ++ _) = _
          rw [← List.append_assoc, hA]
        rw [hA] at HLi
        clear hA
        obtain ⟨wq, hwq⟩ : ∃ wq, wq = wr := ⟨_, rfl⟩
        subst hwq
        go_wp2_with fail
        go_loopw [9, 14] (fun vl vx wr => ∃ j : Nat, j ≤ nx ∧ vx = .int .i64 (lx + (j : Int)) ∧ Hid (OwnT wr W0.heap.size vl (A ++ rowT (fun ox => (thingN S 2 cx cz hs bs ox (lz + (i : Int))).toList) lx j) ∧ (A ++ rowT (fun ox => (thingN S 2 cx cz hs bs ox (lz + (i : Int))).toList) lx j).length ≤ 200 + 10 * i + j) ∧ Hid (Below W0.heap.size W0 wr)) (fun _ vx _ => (lx + (nx : Int) - intOf vx).toNat)
        case atStart => exact ⟨0, by omega, by simp, ⟨by show OwnT _ _ _ (A ++ []); rw [List.append_nil]; exact HLi.out.1, by show (A ++ []).length ≤ _; rw [List.append_nil]; exact HLi.out.2⟩, HB⟩
        case round =>
          clear HLi HB
          obtain ⟨j, hj, rfl, HLj, HB⟩ := hrel
          have k0 : wr.cell? ⟨w.heap.size, 0, none⟩ = some (.int .i64 cx) := (cell_of_row wr w.heap.size 0 _ 24 (0, 0) ((HB.out.block _ (Array.getElem?_eq_some_iff.1 HX0.out).1).trans HX0.out)).trans rfl
          have k1 : wr.cell? ⟨w.heap.size, 1, none⟩ = some (.int .i64 cz) := (cell_of_row wr w.heap.size 1 _ 24 (0, 0) ((HB.out.block _ (Array.getElem?_eq_some_iff.1 HX0.out).1).trans HX0.out)).trans rfl
          go_wp2_with fail
          refine (Hex.out _).mono ?_
          rintro _ w1 ⟨rfl, hw⟩
          replace hw := hw.symm
          subst hw
          by_cases hlj : j < nx
          case neg =>
            have hge : ¬ lx + (j : Int) ≤ ex := by omega
            obtain rfl : j = nx := by omega
            have HL2 : Hid (OwnT wr W0.heap.size u9 (P ++ rowT (fun oz => rowT (fun ox => (thingN S 2 cx cz hs bs ox oz).toList) lx j) lz (i + 1)) ∧ (P ++ rowT (fun oz => rowT (fun ox => (thingN S 2 cx cz hs bs ox oz).toList) lx j) lz (i + 1)).length ≤ 200 + 10 * (i + 1)) := by
              show _ ∧ _
              rw [HA1.out]
              exact ⟨HLj.out.1, by have := HLj.out.2; omega⟩
            clear HLj HPre HA1 k0 k1 Hez Hex Hdx
            go_wp2
            exact ⟨⟨i + 1, by omega, by simp; omega, HL2, HB⟩, by simp [intOf]; omega⟩
          have hlj' : lx + (j : Int) ≤ ex := by omega
          have HBw : Hid (Below w.heap.size w wr) := HB0.out.trans (HB.out.mono HB0.out.size)
          have hth := rthing2_c S cx cz (lx + (j : Int)) (lz + (i : Int)) a a' c c' hs bs wr hS (by omega) (by omega) (by omega) (by omega) (HHs.out.1.on HBw.out) (HBs.out.1.on HBw.out) HHs.out.2 HBs.out.2
          have HRow : Hid (A ++ rowT (fun ox => (thingN S 2 cx cz hs bs ox (lz + (i : Int))).toList) lx (j + 1) = (A ++ rowT (fun ox => (thingN S 2 cx cz hs bs ox (lz + (i : Int))).toList) lx j) ++ (thingN S 2 cx cz hs bs (lx + (j : Int)) (lz + (i : Int))).toList) := by show A ++ (rowT _ lx j ++ _) = _; rw [← List.append_assoc]
          obtain ⟨D, hD⟩ : ∃ D, A ++ rowT (fun ox => (thingN S 2 cx cz hs bs ox (lz + (i : Int))).toList) lx j = D := ⟨_, rfl⟩
          rw [hD] at HLj HRow
          clear hD
          obtain ⟨o, ho⟩ : ∃ o, thingN S 2 cx cz hs bs (lx + (j : Int)) (lz + (i : Int)) = o := ⟨_, rfl⟩
          rw [ho] at hth HRow
          clear ho
          go_wp2_with fail
          refine hth.mono ?_
          clear hth k0 k1
          rintro _ w2 hsay
          obtain ⟨hb2, v0, v1, v2, v3, v4, rfl, hsm⟩ := hsay
          have HB2 : Hid (Below W0.heap.size W0 w2) := HB.out.trans (hb2.mono HB.out.size)
          have HL2 : Hid (OwnT w2 W0.heap.size u9 D ∧ D.length ≤ 200 + 10 * i + j) := ⟨HLj.out.1.on hb2, HLj.out.2⟩
          clear hb2 HB HLj HBw
          rcases o with _ | t
          · have HL3 : Hid (OwnT (w2.alloc (.cells #[.int .i64 v0, .int .i64 v1, .int .i64 v2, .int .i64 v3, .int .i64 v4] 77)) W0.heap.size u9 (A ++ rowT (fun ox => (thingN S 2 cx cz hs bs ox (lz + (i : Int))).toList) lx (j + 1)) ∧ (A ++ rowT (fun ox => (thingN S 2 cx cz hs bs ox (lz + (i : Int))).toList) lx (j + 1)).length ≤ 200 + 10 * i + (j + 1)) := by
              show _ ∧ _
              rw [HRow.out]
              show OwnT _ _ _ (D ++ []) ∧ (D ++ []).length ≤ _
              rw [List.append_nil]
              exact ⟨HL2.out.1.on ((Below.refl _ _).alloc (Nat.le_refl _) _), by have := HL2.out.2; omega⟩
            have HB3 : Hid (Below W0.heap.size W0 (w2.alloc (.cells #[.int .i64 v0, .int .i64 v1, .int .i64 v2, .int .i64 v3, .int .i64 v4] 77))) := HB2.out.alloc HB2.out.size _
            clear hsm HL2 HB2 HRow HPre HA1
            go_wp2
            exact ⟨⟨j + 1, by omega, by simp; omega, HL3, HB3⟩, by simp [intOf]; omega⟩
          · obtain ⟨rfl, rfl, rfl, rfl, rfl⟩ := hsm t rfl
            clear hsm
            have HL3 : Hid (OwnT (w2.alloc (.cells #[.int .i64 (t.s : Int), .int .i64 t.x, .int .i64 t.z, .int .i64 t.h, .int .i64 t.l] 77)) W0.heap.size u9 D) := HL2.out.1.on ((Below.refl _ _).alloc (Nat.le_refl _) _)
            have HB3 : Hid (Below W0.heap.size W0 (w2.alloc (.cells #[.int .i64 (t.s : Int), .int .i64 t.x, .int .i64 t.z, .int .i64 t.h, .int .i64 t.l] 77))) := HB2.out.alloc HB2.out.size _
            have HR2 : Hid (A ++ rowT (fun ox => (thingN S 2 cx cz hs bs ox (lz + (i : Int))).toList) lx (j + 1) = D ++ [t]) := HRow.out
            have hDl : D.length ≤ 100000 := by have := HL2.out.2; omega
            clear HRow HPre HA1
            go_wp2_with (at_builtin; refine wpList_append_thing rfl _ _ rfl W0.heap.size u9 D t rfl HL3.out _ rfl (by simp) hDl HB3.out.size ?_; intro v' w3 hO3 hb3)
            have HL4 : Hid (OwnT w3 W0.heap.size v' (A ++ rowT (fun ox => (thingN S 2 cx cz hs bs ox (lz + (i : Int))).toList) lx (j + 1)) ∧ (A ++ rowT (fun ox => (thingN S 2 cx cz hs bs ox (lz + (i : Int))).toList) lx (j + 1)).length ≤ 200 + 10 * i + (j + 1)) := by
              show _ ∧ _
              rw [HR2.out]
              exact ⟨hO3, by rw [List.length_append, List.length_singleton]; have := HL2.out.2; omega⟩
            have HB4 : Hid (Below W0.heap.size W0 w3) := HB3.out.trans hb3
            exact ⟨⟨j + 1, by omega, by simp; omega, HL4, HB4⟩, by simp [intOf]; omega⟩
    · obtain rfl : s = 0 := by omega
      have R := HP.out _ wr (show RhSay S cx cz hs bs w (.returned u9) wr from ⟨HB0.out.trans (HB.out.mono HB0.out.size), by rw [← pre3]; have := HL.out.2; omega, u9, rfl, by rw [← pre3]; exact HL.out.1.base HB0.out.size⟩)
      clear HP HL
      go_wp2
      exact R
end
section
open C Go.RowKit

/-! ### bytes at the beginning of a block -/
def Pre (w : World) (b : Nat) (t : TypeId) (cs : List Int) : Prop := ∃ cur, w.heap[b]? = some (.cells cur t (0, 0)) ∧ cs.length ≤ cur.size ∧ ∀ k, k < cs.length → cur[k]? = some (.int .u8 (cs.getD k 0))
theorem Pre.lt {w : World} {b : Nat} {t : TypeId} {cs : List Int} (h : Pre w b t cs) : b < w.heap.size := by
  obtain ⟨cur, hc, _⟩ := h
  exact (Array.getElem?_eq_some_iff.1 hc).1
theorem Pre.cell {w : World} {b : Nat} {t : TypeId} {cs : List Int} (h : Pre w b t cs) {k : Nat} (hk : k < cs.length) : w.cell? ⟨b, k, none⟩ = some (.int .u8 (cs.getD k 0)) := by
  obtain ⟨cur, hc, _, he⟩ := h
  rw [cell_of_row w b k cur t (0, 0) hc]
  exact he k hk
theorem Pre.free {w : World} {b : Nat} {t : TypeId} {cs : List Int} (h : Pre w b t cs) (k : Nat) : w.frozen? ⟨b, k, none⟩ = false := by
  obtain ⟨cur, hc, _⟩ := h
  exact frozen_of_row w b k cur t hc
theorem Pre.set {w : World} {b : Nat} {t : TypeId} {cs : List Int} (h : Pre w b t cs) (k : Nat) (x : Int) : Pre (w.setCell ⟨b, k, none⟩ (.int .u8 x)) b t (cs.set k x) := by
  obtain ⟨cur, hc, hl, he⟩ := h
  refine ⟨_, heap_setCell_same w b k _ t _ hc, by rw [List.length_set, Array.size_setIfInBounds]; exact hl, fun j hj => ?_⟩
  rw [List.length_set] at hj
  by_cases e : k = j
  · subst e
    rw [Array.getElem?_setIfInBounds_self_of_lt (by omega), C.getD_set_self cs k x hj]
  · rw [Array.getElem?_setIfInBounds_ne e, C.getD_set_ne cs x e]
    exact he j hj
theorem Pre.below {w w' : World} {b n : Nat} {t : TypeId} {cs : List Int} (h : Pre w b t cs) (hb : Below n w w') (hn : b < n) : Pre w' b t cs := by
  obtain ⟨cur, hc, hr⟩ := h
  exact ⟨cur, (hb.block b hn).trans hc, hr⟩
theorem Pre.other {w : World} {b b' k : Nat} {t : TypeId} {cs : List Int} {v : Value} (h : Pre w b t cs) (hb : b ≠ b') : Pre (w.setCell ⟨b', k, none⟩ v) b t cs := by
  obtain ⟨cur, hc, hr⟩ := h
  exact ⟨cur, (Below.heap_setCell w ⟨b', k, none⟩ v b hb).trans hc, hr⟩
theorem Pre.src {w : World} {g : Nat} {t : TypeId} {cs : List Int} (h : Pre w g t cs) (hk : Kinds cs) : Src w (some ⟨g, 0, none⟩) cs.length cs :=
  ⟨rfl, fun k hk' => ⟨g, 0, rfl, h.lt, by rw [Nat.zero_add]; exact h.cell hk'⟩, hk.bytes⟩
theorem Pre.conv {w : World} {g c : Nat} {t : TypeId} {cs : List Int} (h : Pre w g t cs) (hl : cs.length = 32768) (hk : Kinds cs) : (convert 29 9 (.slice (some ⟨g, 0, none⟩) 32768 c)).run Tryz.prog w = .ok (.string (strOfNums cs)) w := by
  have := conv_c (cap := c) (h.src hk)
  rwa [hl] at this
theorem Blk.pre {w : World} {g : Nat} {t : TypeId} {cs : List Int} (h : Blk w g t cs) : Pre w g t cs :=
  ⟨_, h, by rw [vals_size]; exact Nat.le_refl _, fun k hk => by simp [vals, hk]⟩
/-- A copy of bytes by an append to none. -/
theorem wpList_append_copy {w : World} {ops : Array Oper} {rest : List Oper} {o : Oper} {a : Act} {Q : Exit → Act → World → Prop} (hgd : o.guard = none) (s x : Operand)
    (ho : o.op = .call { callee := .builtin .append, args := #[s, x], argTypes := #[29, 29] }) (g c : Nat) (cs : List Int) (hl : cs.length = 32768) (hP : Pre w g 5 cs) (hs : a.eval s = .slice none 0 0) (hx : a.eval x = .slice (some ⟨g, 0, none⟩) 32768 c)
    (h : ∀ g' c' w', Pre w' g' 5 cs → Below w.heap.size w w' → w.heap.size ≤ g' → wpList Tryz.prog ops Q rest (a.put o.dst (.slice (some ⟨g', 0, none⟩) 32768 c')) w') : wpList Tryz.prog ops Q (o :: rest) a w := by
  obtain ⟨i, hi, hz0, hz1, hz2⟩ := info_parts C.info5
  refine wpList_append_own_at w hgd s x 29 ho w.heap.size 5 i _ 1 1 Tryz.underlying29 hi hz0 hz1 hz2 rfl (by decide) (.slice none 0 0) 0 [] hs (World.ownsRow_nil _ _ _ _) ⟨g, 0, none⟩ 32768 c (cs.map (Value.int .u8)) hx (by simp [hl]) (fun j u hj => ?_) (by simp [Value.oneCell']) (by simp [maxLen]) (by omega) (Nat.le_refl _) ?_
  · rw [List.getElem?_map] at hj
    obtain ⟨v, hv, rfl⟩ := Option.map_eq_some_iff.1 hj
    have hjl := (List.getElem?_eq_some_iff.1 hv).1
    rw [show (Addr.add ⟨g, 0, none⟩ j) = ⟨g, j, none⟩ by rw [Addr.add_mid, Nat.zero_add]]
    rw [hP.cell hjl, List.getD_eq_getElem?_getD, hv]
    rfl
  · intro v' w' h1 h2 _ h4
    rcases h1.2 with ⟨hv, hn⟩ | ⟨g', cap, cur, hv, hlo, hh, hk, _, hsz, ht⟩
    · omega
    · subst hv
      refine h g' cap w' ⟨cur, hh, ?_, fun k hk' => ?_⟩ ⟨h2.os, h2.tape, h2.output, h2.size, fun k hk => h2.block k hk (by simp [Value.ownBlock])⟩ hlo
      · rw [hl]; omega
      · have := congrArg (fun l => l[k]?) ht
        simp only [List.nil_append, List.getElem?_map, List.getElem?_take] at this
        rw [if_pos (by omega)] at this
        rw [← Array.getElem?_toList, this, List.getD_eq_getElem?_getD, List.getElem?_eq_getElem hk']
        rfl

theorem Pre.ne {w : World} {b b' : Nat} {cs : List Int} {a : Array Value} {t : TypeId} (h : Pre w b 5 cs) (h' : w.heap[b']? = some (.cells a t (0, 0))) (ht : t ≠ 5) : b' ≠ b := fun e => by
  subst e
  obtain ⟨cur, hc, _⟩ := h
  rw [hc] at h'
  injection h' with h'
  injection h' with _ h' _
  exact ht h'.symm
/-! ### painting -/
def jx (cx : Int) (j : Nat) : Int := cx * 16 + (j : Int) % 16
def jz (cz : Int) (j : Nat) : Int := cz * 16 + (j : Int) / 16 % 16
def jy (j : Nat) : Int := (j : Int) / 256
/-- What a feature claims of a cell of a chunk. -/
def cj (cx cz : Int) (t : Thing) (bs : List Int) (j : Nat) : Option Int := clm t (jx cx j) (jy j) (jz cz j) (bs.getD j 0)
def nOf (cx cz : Int) (t : Thing) (j : Nat) : Int := (jy j - t.h) * 25 + (jz cz j - t.z + 2) * 5 + (jx cx j - t.x + 2)
def midV (cx cz : Int) (t : Thing) (bs ds : List Int) (N : Int) (j : Nat) : Int := if nOf cx cz t j < N then (cj cx cz t bs j).getD (ds.getD j 0) else ds.getD j 0
/-- Painted up to number N of the cells about a feature. -/
def MidB (cx cz : Int) (t : Thing) (bs ds : List Int) (N : Nat) (zs : List Int) : Prop := zs.length = 32768 ∧ ∀ j, j < 32768 → zs.getD j 0 = midV cx cz t bs ds N j
section
variable {cx cz : Int} {t : Thing} {bs ds zs : List Int}
theorem cj_near {j : Nat} {v : Int} (hl : 4 ≤ t.l ∧ t.l ≤ 7) (h : cj cx cz t bs j = some v) : (-2 ≤ jx cx j - t.x ∧ jx cx j - t.x ≤ 2) ∧ (-2 ≤ jz cz j - t.z ∧ jz cz j - t.z ≤ 2) ∧ 0 ≤ jy j - t.h ∧ jy j - t.h ≤ 11 := by
  have h1 := clm_near h
  have h2 := clm_high hl h
  exact ⟨h1.1, h1.2, h2⟩
theorem n_of {j N : Nat} {v : Int} (hl : 4 ≤ t.l ∧ t.l ≤ 7) (h : cj cx cz t bs j = some v) (hn : nOf cx cz t j = N) : jx cx j = t.x + (N : Int) % 5 - 2 ∧ jy j = t.h + (N : Int) / 25 ∧ jz cz j = t.z + (N : Int) / 5 % 5 - 2 := by
  have := cj_near hl h
  unfold nOf at hn
  generalize jx cx j = a at *
  generalize jy j = b at *
  generalize jz cz j = c at *
  omega
theorem n_bd {j : Nat} {v : Int} (hl : 4 ≤ t.l ∧ t.l ≤ 7) (h : cj cx cz t bs j = some v) : 0 ≤ nOf cx cz t j ∧ nOf cx cz t j < 300 := by
  have := cj_near hl h
  unfold nOf
  generalize jx cx j = a at *
  generalize jy j = b at *
  generalize jz cz j = c at *
  omega
theorem MidB.init (h : ds.length = 32768) (hl : 4 ≤ t.l ∧ t.l ≤ 7) : MidB cx cz t bs ds 0 ds := ⟨h, fun j hj => by
  unfold midV
  split
  · rename_i hn
    rcases e : cj cx cz t bs j with _ | v
    · rfl
    · have := n_bd hl e
      omega
  · rfl⟩
theorem j_same {i j : Nat} (hi : i < 32768) (hj : j < 32768) (h1 : jx cx i = jx cx j) (h2 : jy i = jy j) (h3 : jz cz i = jz cz j) : i = j := by
  unfold jx at h1
  unfold jy at h2
  unfold jz at h3
  omega
/-- The cell with number N is one of the chunk's. -/
theorem MidB.yes {N j : Nat} (h : MidB cx cz t bs ds N zs) (hl : 4 ≤ t.l ∧ t.l ≤ 7) (hj : j < 32768) (hx : jx cx j = t.x + (N : Int) % 5 - 2) (hy : jy j = t.h + (N : Int) / 25) (hz : jz cz j = t.z + (N : Int) / 5 % 5 - 2) :
    MidB cx cz t bs ds (N + 1) (match cj cx cz t bs j with | some v => zs.set j v | none => zs) := by
  have hn : nOf cx cz t j = N := by unfold nOf; rw [hx, hy, hz]; omega
  have hlen : (match cj cx cz t bs j with | some v => zs.set j v | none => zs).length = 32768 := by
    split
    · rw [List.length_set]; exact h.1
    · exact h.1
  refine ⟨hlen, fun i hi => ?_⟩
  by_cases e : j = i
  · subst e
    unfold midV
    rw [if_pos (by omega)]
    rcases ec : cj cx cz t bs j with _ | v
    · show zs.getD j 0 = ds.getD j 0
      rw [h.2 j hj]
      unfold midV
      rw [if_neg (by omega)]
    · exact C.getD_set_self zs j v (by rw [h.1]; exact hj)
  · have e1 : (match cj cx cz t bs j with | some v => zs.set j v | none => zs).getD i 0 = zs.getD i 0 := by
      split
      · exact C.getD_set_ne zs _ e
      · rfl
    rw [e1, h.2 i hi]
    unfold midV
    by_cases hc : nOf cx cz t i < N
    · rw [if_pos hc, if_pos (by omega)]
    · rw [if_neg hc]
      split
      · rename_i h3
        rcases ec : cj cx cz t bs i with _ | v
        · rfl
        · exfalso
          obtain ⟨q1, q2, q3⟩ := n_of hl ec (N := N) (by omega)
          exact e (j_same hj hi (hx.trans q1.symm) (hy.trans q2.symm) (hz.trans q3.symm))
      · rfl
theorem MidB.no {N : Nat} (h : MidB cx cz t bs ds N zs) (hl : 4 ≤ t.l ∧ t.l ≤ 7) (hno : ∀ j, j < 32768 → jx cx j = t.x + (N : Int) % 5 - 2 → jy j = t.h + (N : Int) / 25 → jz cz j = t.z + (N : Int) / 5 % 5 - 2 → False) : MidB cx cz t bs ds (N + 1) zs := by
  refine ⟨h.1, fun i hi => ?_⟩
  rw [h.2 i hi]
  unfold midV
  by_cases hc : nOf cx cz t i < N
  · rw [if_pos hc, if_pos (by omega)]
  · rw [if_neg hc]
    split
    · rename_i h3
      rcases ec : cj cx cz t bs i with _ | v
      · rfl
      · exfalso
        obtain ⟨q1, q2, q3⟩ := n_of hl ec (N := N) (by omega)
        exact hno i hi q1 q2 q3
    · rfl
/-- Painted by the features from number i on. -/
def PaintB (cx cz : Int) (l : List Thing) (bs : List Int) (i : Nat) (zs : List Int) : Prop := zs.length = 32768 ∧ ∀ j, j < 32768 → zs.getD j 0 = pickT (jx cx j) (jy j) (jz cz j) (bs.getD j 0) (l.drop i)
theorem PaintB.init {l : List Thing} (h : bs.length = 32768) : PaintB cx cz l bs l.length bs := ⟨h, fun j _ => by rw [List.drop_length]; rfl⟩
theorem PaintB.step {l : List Thing} {i : Nat} {zs' : List Int} (h : PaintB cx cz l bs (i + 1) zs) (ht : l[i]? = some t) (hl : 4 ≤ t.l ∧ t.l ≤ 7) (hm : MidB cx cz t bs zs 300 zs') : PaintB cx cz l bs i zs' := by
  refine ⟨hm.1, fun j hj => ?_⟩
  have e : l.drop i = t :: l.drop (i + 1) := by
    obtain ⟨hi, hv⟩ := List.getElem?_eq_some_iff.1 ht
    rw [List.drop_eq_getElem_cons hi, hv]
  rw [hm.2 j hj, e, pick_cons]
  unfold midV
  rw [h.2 j hj]
  rcases ec : cj cx cz t bs j with _ | v
  · have ec' : clm t (jx cx j) (jy j) (jz cz j) (bs.getD j 0) = none := ec
    rw [ec']
    split <;> rfl
  · have ec' : clm t (jx cx j) (jy j) (jz cz j) (bs.getD j 0) = some v := ec
    rw [ec', if_pos (show nOf cx cz t j < ((300 : Nat) : Int) from (n_bd hl ec).2)]
    rfl
end
theorem PaintB.done {S : Nat} {cx cz : Int} {hs gs : List (List Int)} {bs zs : List Int} (h : PaintB cx cz (things S cx cz hs gs) bs 0 zs) : zs = buildN S cx cz hs gs bs := by
  refine C.getD_ext (by rw [h.1, buildN_len]) fun j hj => ?_
  rw [h.1] at hj
  rw [h.2 j hj, buildN_at _ _ _ _ _ _ _ hj]
  rfl
theorem things_ok {S : Nat} {cx cz : Int} {hs gs : List (List Int)} {t : Thing} (hcx : -1073741825 ≤ cx ∧ cx ≤ 1073741825) (hcz : -1073741825 ≤ cz ∧ cz ≤ 1073741825) (oH : okG 128 hs) (h : t ∈ things S cx cz hs gs) :
    t.s < 3 ∧ (-100000000000 ≤ t.x ∧ t.x ≤ 100000000000) ∧ (-100000000000 ≤ t.z ∧ t.z ≤ 100000000000) ∧ (0 ≤ t.h ∧ t.h ≤ 127) ∧ 4 ≤ t.l ∧ t.l ≤ 7 := by
  obtain ⟨s, ox, oz, hs3, e⟩ := things_mem h
  obtain ⟨ht, _, hn, _⟩ := thing_is e
  have hg := gAt_bd oH hn
  have hl := lenT_bd (hT S s ox oz)
  unfold nearB at hn
  have hn' := of_decide_eq_true hn
  rw [ht]
  simp only []
  generalize colX s (hT S s ox oz) ox = X at *
  generalize colZ s (hT S s ox oz) oz = Z at *
  generalize gAt cx cz hs X Z = G at *
  generalize lenT (hT S s ox oz) = L at *
  omega
end
section
open C Go.RowKit

/-- What the document's Apply answers. -/
def RbSay (S : Nat) (cx cz : Int) (hs gs : List (List Int)) (bs : List Int) (w : World) (e : Ending) (w' : World) : Prop :=
  Below w.heap.size w w' ∧ ∃ og oc, e = .returned (.tuple #[.slice (some ⟨og, 0, none⟩) 32768 oc, .int .i64 0]) ∧ Pre w' og 5 (buildN S cx cz hs gs bs)
theorem OwnT.cell {w : World} {B : Nat} {v : Value} {l : List Thing} (h : OwnT w B v l) (hl : 0 < l.length) : ∃ g c, v = .slice (some ⟨g, 0, none⟩) l.length c ∧ B ≤ g ∧ ∀ i t, l[i]? = some t → ∀ j, j < 5 → w.cell? ⟨g, i * 5 + j, none⟩ = (rowV t)[j]? := by
  obtain ⟨a, c, rfl, hr⟩ := h
  rcases hr.2 with ⟨h0, hn⟩ | ⟨g, cap, cur, hv, hbg, hh, hr2⟩
  · omega
  · cases hv
    refine ⟨g, c, rfl, hbg, fun i t ht j hj => ?_⟩
    have hi := (List.getElem?_eq_some_iff.1 ht).1
    rw [ownsRow_cell hr (i * 5 + j) (by omega), flatT_get l i t ht j hj]
theorem OwnT.low {w : World} {B : Nat} {v : Value} {l : List Thing} (h : OwnT w B v l) {g k : Nat} (hg : g < B) (x : Value) : OwnT (w.setCell ⟨g, k, none⟩ x) B v l := by
  obtain ⟨a, c, e, hr⟩ := h
  refine ⟨a, c, e, hr.1, ?_⟩
  rcases hr.2 with h0 | ⟨g', cap, cur, hv, hbg, hh, hr2⟩
  · exact .inl h0
  · exact .inr ⟨g', cap, cur, hv, hbg, (Below.heap_setCell w ⟨g, k, none⟩ x g' (show g' ≠ g by omega)).trans hh, hr2⟩
set_option maxRecDepth 1000000 in
set_option maxHeartbeats 8000000 in
theorem rapply_c (S : Nat) (cx cz : Int) (bg cap : Nat) (bs : List Int) (a a' : Option Addr) (c c' : Nat) (hs gs : List (List Int)) (w : World) (hS : S < 18446744073709551616) (hcx : -1073741825 ≤ cx ∧ cx ≤ 1073741825) (hcz : -1073741825 ≤ cz ∧ cz ≤ 1073741825)
    (hB : Pre w bg 5 bs) (hl : bs.length = 32768) (hk : Kinds bs) (hH : Rows2 w a hs) (hG : Rows2 w a' gs) (oH : okG 128 hs) (oG : okG 4 gs) :
    Calls Tryz.prog 11 #[.int .u64 S, .agg #[.int .i64 cx, .int .i64 cz], .slice (some ⟨bg, 0, none⟩) 32768 cap, .slice a 9 c, .slice a' 9 c'] w (RbSay S cx cz hs gs bs w) := by
  obtain ⟨Post, hPost⟩ : ∃ Post : Ending → World → Prop, Post = RbSay S cx cz hs gs bs w := ⟨_, rfl⟩
  rw [← hPost]
  have HPost : Hid (∀ e w', RbSay S cx cz hs gs bs w e w' → Post e w') := fun e w' h => by rw [hPost]; exact h
  clear hPost
  have HBs : Hid (Pre w bg 5 bs ∧ bs.length = 32768 ∧ Kinds bs) := ⟨hB, hl, hk⟩
  have HHs : Hid (Rows2 w a hs ∧ okG 128 hs) := ⟨hH, oH⟩
  have HGs : Hid (Rows2 w a' gs ∧ okG 4 gs) := ⟨hG, oG⟩
  have HC : Hid ((-1073741825 ≤ cx ∧ cx ≤ 1073741825) ∧ -1073741825 ≤ cz ∧ cz ≤ 1073741825) := ⟨hcx, hcz⟩
  obtain ⟨cx0, cx1⟩ := hcx
  obtain ⟨cz0, cz1⟩ := hcz
  have HB1 : Hid (Below w.heap.size w (w.alloc (.cells #[.int .i64 cx, .int .i64 cz] 24))) := (Below.refl _ w).alloc (Nat.le_refl _) _
  have HX1 : Hid ((w.alloc (.cells #[.int .i64 cx, .int .i64 cz] 24)).heap[w.heap.size]? = some (.cells #[.int .i64 cx, .int .i64 cz] 24 (0, 0))) := heap_alloc_new w _
  have HP1 : Hid (Pre (w.alloc (.cells #[.int .i64 cx, .int .i64 cz] 24)) bg 5 bs) := hB.below HB1.out hB.lt
  have Hsz : Hid (w.heap.size < (w.alloc (.cells #[.int .i64 cx, .int .i64 cz] 24)).heap.size) := by show _ < _; simp
  clear hB hl hk hH hG oH oG
  go_enter Tryz.func11, Tryz.ntmps11
  go_wp2_with fail
  generalize w.alloc (.cells #[.int .i64 cx, .int .i64 cz] 24) = W1 at *
  have hm1 := rmay_c a 9 c 128 hs true W1 (HHs.out.1.on HB1.out) HHs.out.2.1 (by omega) (fun i hi => by rw [(HHs.out.2.2 i hi).1]; omega) ⟨fun _ => HHs.out.2, fun _ => rfl⟩
  refine hm1.mono ?_
  clear hm1
  rintro _ w2 hsay
  obtain ⟨rfl, hw⟩ := hsay
  replace hw := hw.symm
  subst hw
  have hm2 := rmay_c a' 9 c' 4 gs true W1 (HGs.out.1.on HB1.out) HGs.out.2.1 (by omega) (fun i hi => by rw [(HGs.out.2.2 i hi).1]; omega) ⟨fun _ => HGs.out.2, fun _ => rfl⟩
  go_wp2_with fail
  refine hm2.mono ?_
  clear hm2
  rintro _ w2 hsay
  obtain ⟨rfl, hw⟩ := hsay
  replace hw := hw.symm
  subst hw
  go_wp2_with (at_builtin; refine wpList_append_copy rfl _ _ rfl bg cap bs HBs.out.2.1 HP1.out rfl rfl ?_; intro og oc w3 hPre hb3 hog; have hX3 := (hb3.block _ Hsz.out).trans HX1.out; have k0 : w3.cell? ⟨w.heap.size, 0, none⟩ = some (.int .i64 cx) := (cell_of_row w3 w.heap.size 0 _ 24 (0, 0) hX3).trans rfl; have k1 : w3.cell? ⟨w.heap.size, 1, none⟩ = some (.int .i64 cz) := (cell_of_row w3 w.heap.size 1 _ 24 (0, 0) hX3).trans rfl)
  have HB3 : Hid (Below w.heap.size w w3) := HB1.out.trans (hb3.mono HB1.out.size)
  have HX3 : Hid (w3.heap[w.heap.size]? = some (.cells #[.int .i64 cx, .int .i64 cz] 24 (0, 0))) := (hb3.block _ Hsz.out).trans HX1.out
  have Hog : Hid (w.heap.size < og) := Nat.lt_of_lt_of_le Hsz.out hog
  have HP3 : Hid (Pre w3 og 5 bs) := hPre
  clear hPre hb3 hog HP1 HB1 HX1 Hsz hX3
  have hth := rthings_c S cx cz a a' c c' hs gs w3 hS HC.out.1 HC.out.2 (HHs.out.1.on HB3.out) (HGs.out.1.on HB3.out) HHs.out.2 HGs.out.2
  refine hth.mono ?_
  clear hth k0 k1
  rintro _ w4 hsay
  obtain ⟨hb4, hlen, v, rfl, hO4⟩ := hsay
  have HB4 : Hid (Below w.heap.size w w4) := HB3.out.trans (hb4.mono HB3.out.size)
  have HX4 : Hid (w4.heap[w.heap.size]? = some (.cells #[.int .i64 cx, .int .i64 cz] 24 (0, 0))) := (hb4.block _ (Array.getElem?_eq_some_iff.1 HX3.out).1).trans HX3.out
  have HP4 : Hid (Pre w4 og 5 bs) := HP3.out.below hb4 HP3.out.lt
  have Hlo : Hid (og < w3.heap.size) := HP3.out.lt
  have Hok : Hid (∀ t ∈ things S cx cz hs gs, t.s < 3 ∧ (-100000000000 ≤ t.x ∧ t.x ≤ 100000000000) ∧ (-100000000000 ≤ t.z ∧ t.z ≤ 100000000000) ∧ (0 ≤ t.h ∧ t.h ≤ 127) ∧ 4 ≤ t.l ∧ t.l ≤ 7) := fun t ht => things_ok HC.out.1 HC.out.2 HHs.out.2 ht
  have Hdone : Hid (∀ zs, PaintB cx cz (things S cx cz hs gs) bs 0 zs → zs = buildN S cx cz hs gs bs) := fun zs h => h.done
  clear hb4 HB3 HX3 HP3 HHs HGs
  generalize things S cx cz hs gs = l at *
  obtain ⟨av, cv, hv, _⟩ := id hO4
  have HO4 : Hid (OwnT w4 w3.heap.size v l) := hO4
  subst hv
  clear hO4
  generalize w3.heap.size = lb at *
  clear w3
  have hl300 : l.length ≤ 300 := hlen
  go_wp2_with fail
  go_loopw [16] (fun vi wr => ∃ (I : Nat), I ≤ l.length ∧ vi = .int .i64 ((I : Int) - 1) ∧ Hid (∃ zs, PaintB cx cz l bs I zs ∧ Pre wr og 5 zs) ∧ Hid (OwnT wr lb (.slice av l.length cv) l) ∧ Hid (wr.heap[w.heap.size]? = some (.cells #[.int .i64 cx, .int .i64 cz] 24 (0, 0))) ∧ Hid (Below w.heap.size w wr)) (fun vi _ => ((intOf vi) + 1).toNat)
  case atStart => exact ⟨l.length, Nat.le_refl _, rfl, ⟨bs, PaintB.init HBs.out.2.1, HP4.out⟩, HO4, HX4, HB4⟩
  case round =>
    clear HX4 HB4 HP4 HO4 hlen
    obtain ⟨I, hI, rfl, HZ, HO, HX, HB⟩ := hrel
    rcases I with _ | n
    · obtain ⟨zs, hp, hP⟩ := HZ.out
      have R := HPost.out _ wr (show RbSay S cx cz hs gs bs w (.returned (.tuple #[.slice (some ⟨og, 0, none⟩) 32768 oc, .int .i64 0])) wr from ⟨HB.out, og, oc, rfl, by rw [← Hdone.out zs hp]; exact hP⟩)
      clear HPost HZ HX HB hp hP HO Hok Hdone
      have hneg : ¬ (0 : Int) ≤ ((0 : Nat) : Int) - 1 := by omega
      go_wp2
      exact R
    rw [show ((n + 1 : Nat) : Int) - 1 = (n : Int) by omega]
    have hn : n < l.length := by omega
    have hn' : (0 : Int) ≤ (n : Int) := by omega
    obtain ⟨t, ht⟩ : ∃ t, l[n]? = some t := ⟨l[n], List.getElem?_eq_getElem hn⟩
    have Ht : Hid (l[n]? = some t) := ht
    have hok := Hok.out t (List.mem_of_getElem? ht)
    have Hokt : Hid (t.s < 3 ∧ (-100000000000 ≤ t.x ∧ t.x ≤ 100000000000) ∧ (-100000000000 ≤ t.z ∧ t.z ≤ 100000000000) ∧ (0 ≤ t.h ∧ t.h ≤ 127) ∧ 4 ≤ t.l ∧ t.l ≤ 7) := hok
    obtain ⟨g0, c0', hav, hg0, _⟩ := HO.out.cell (by omega)
    cases hav
    clear ht hok
    obtain ⟨zs, hpz, hPz⟩ := HZ.out
    have HPz : Hid (PaintB cx cz l bs (n + 1) zs) := hpz
    have HPr : Hid (Pre wr og 5 zs) := hPz
    clear HZ hpz hPz
    obtain ⟨wq, hwq⟩ : ∃ wq, wq = wr := ⟨_, rfl⟩
    subst hwq
    go_wp2_with fail
    go_loopw [17] (fun vk wr => ∃ (N : Nat), N ≤ 300 ∧ vk = .int .i64 (N : Int) ∧ Hid (∃ ys, MidB cx cz t bs zs N ys ∧ Pre wr og 5 ys) ∧ Hid (OwnT wr lb (.slice (some ⟨g0, 0, none⟩) l.length cv) l) ∧ Hid (wr.heap[w.heap.size]? = some (.cells #[.int .i64 cx, .int .i64 cz] 24 (0, 0))) ∧ Hid (Below w.heap.size w wr)) (fun vk _ => 300 - (intOf vk).toNat)
    case atStart => exact ⟨0, by omega, rfl, ⟨zs, MidB.init HPz.out.1 Hokt.out.2.2.2.2, HPr.out⟩, HO, HX, HB⟩
    case round =>
      clear HX HO HB HPr
      obtain ⟨N, hN, rfl, HY, HO, HX, HB⟩ := hrel
      obtain ⟨ys, hmid, hPy⟩ := HY.out
      by_cases hlt : N < 300
      case neg =>
        have hge : ¬ (N : Int) < 300 := by omega
        obtain rfl : N = 300 := by omega
        have HZ4 : Hid (∃ zs, PaintB cx cz l bs n zs ∧ Pre wr og 5 zs) := ⟨ys, HPz.out.step Ht.out Hokt.out.2.2.2.2 hmid, hPy⟩
        clear HPost HY hmid hPy HPz
        go_wp2
        exact ⟨⟨n, by omega, by simp, HZ4, HO, HX, HB⟩, by simp [intOf]⟩
      have hlt' : (N : Int) < 300 := by omega
      have HM : Hid (MidB cx cz t bs zs N ys) := hmid
      have HPy : Hid (Pre wr og 5 ys) := hPy
      clear HY hmid hPy
      obtain ⟨_, _, e0, _, hcells⟩ := HO.out.cell (by omega)
      cases e0
      have hx1 := (hcells n t Ht.out 1 (by omega)).trans (show (rowV t)[1]? = some (.int .i64 t.x) from rfl)
      have hz1 := (hcells n t Ht.out 2 (by omega)).trans (show (rowV t)[2]? = some (.int .i64 t.z) from rfl)
      have hh1 := (hcells n t Ht.out 3 (by omega)).trans (show (rowV t)[3]? = some (.int .i64 t.h) from rfl)
      clear hcells
      obtain ⟨tx0, tx1⟩ := Hokt.out.2.1
      obtain ⟨tz0, tz1⟩ := Hokt.out.2.2.1
      obtain ⟨th0, th1⟩ := Hokt.out.2.2.2.1
      obtain ⟨A5, hA5⟩ : ∃ A, N % 5 = A := ⟨_, rfl⟩
      obtain ⟨B25, hB25⟩ : ∃ A, N / 25 = A := ⟨_, rfl⟩
      obtain ⟨C5, hC5⟩ : ∃ A, N / 5 = A := ⟨_, rfl⟩
      obtain ⟨D5, hD5⟩ : ∃ A, C5 % 5 = A := ⟨_, rfl⟩
      have r1 : Int.tmod (N : Int) 5 = (A5 : Int) := by rw [Int.tmod_eq_emod_of_nonneg (by omega)]; omega
      have r2 : Int.tdiv (N : Int) 25 = (B25 : Int) := by rw [Int.tdiv_eq_ediv_of_nonneg (by omega)]; omega
      have r3 : Int.tdiv (N : Int) 5 = (C5 : Int) := by rw [Int.tdiv_eq_ediv_of_nonneg (by omega)]; omega
      have r4 : Int.tmod (C5 : Int) 5 = (D5 : Int) := by rw [Int.tmod_eq_emod_of_nonneg (by omega)]; omega
      have bA : A5 < 5 := by omega
      have bB : B25 < 12 := by omega
      have bC : C5 < 60 := by omega
      have bD : D5 < 5 := by omega
      obtain ⟨PX, hPX⟩ : ∃ p : Int, t.x + (A5 : Int) - 2 = p := ⟨_, rfl⟩
      obtain ⟨PY, hPY⟩ : ∃ p : Int, t.h + (B25 : Int) = p := ⟨_, rfl⟩
      obtain ⟨PZ, hPZ⟩ : ∃ p : Int, t.z + (D5 : Int) - 2 = p := ⟨_, rfl⟩
      have Hp : Hid (t.x + (N : Int) % 5 - 2 = PX ∧ t.h + (N : Int) / 25 = PY ∧ t.z + (N : Int) / 5 % 5 - 2 = PZ) := by show _ ∧ _; omega
      have w2' : IntKind.i64.wrap (B25 : Int) = (B25 : Int) := by rw [IntKind.wrap_i64]; omega
      have w3' : IntKind.i64.wrap (C5 : Int) = (C5 : Int) := by rw [IntKind.wrap_i64]; omega
      have u1 : IntKind.i64.wrap (t.x + (A5 : Int)) = t.x + (A5 : Int) := by rw [IntKind.wrap_i64]; omega
      have u2 : IntKind.i64.wrap (t.x + (A5 : Int) - 2) = PX := by rw [IntKind.wrap_i64]; omega
      have u3 : IntKind.i64.wrap (t.h + (B25 : Int)) = PY := by rw [IntKind.wrap_i64]; omega
      have u4 : IntKind.i64.wrap (t.z + (D5 : Int)) = t.z + (D5 : Int) := by rw [IntKind.wrap_i64]; omega
      have u5 : IntKind.i64.wrap (t.z + (D5 : Int) - 2) = PZ := by rw [IntKind.wrap_i64]; omega
      have bpx : -100000000002 ≤ PX ∧ PX ≤ 100000000002 := by omega
      have bpy : 0 ≤ PY ∧ PY ≤ 138 := by omega
      have bpz : -100000000002 ≤ PZ ∧ PZ ≤ 100000000002 := by omega
      clear hA5 hB25 hC5 hD5 hPX hPY hPZ
      obtain ⟨tx, htx⟩ : ∃ v, t.x = v := ⟨_, rfl⟩
      obtain ⟨tz, htz⟩ : ∃ v, t.z = v := ⟨_, rfl⟩
      obtain ⟨th, hth⟩ : ∃ v, t.h = v := ⟨_, rfl⟩
      rw [htx] at hx1 u1 u2
      rw [htz] at hz1 u4 u5
      rw [hth] at hh1 u3
      clear htx htz hth
      go_wp2_with fail
      refine region_L (fun w' => Below wr.heap.size wr w') 30 (by kernel_rfl) ?_
      have hHeld : Below wr.heap.size wr wr.drew := (Below.refl _ _).drew
      have hne : Nonempty (Sub (fun w' => Below wr.heap.size wr w')) := ⟨⟨_, hHeld⟩⟩
      have y1 : ∀ s : Sub (fun w' => Below wr.heap.size wr w'), s.w.cell? ⟨g0, n * 5 + 1, none⟩ = some (.int .i64 tx) := fun s => cell_below hx1 s.ok
      have y2 : ∀ s : Sub (fun w' => Below wr.heap.size wr w'), s.w.cell? ⟨g0, n * 5 + 2, none⟩ = some (.int .i64 tz) := fun s => cell_below hz1 s.ok
      have y3 : ∀ s : Sub (fun w' => Below wr.heap.size wr w'), s.w.cell? ⟨g0, n * 5 + 3, none⟩ = some (.int .i64 th) := fun s => cell_below hh1 s.ok
      have hnl : (n : Int) < (l.length : Int) := by omega
      clear hx1 hz1 hh1
      generalize wr.drew = va at *
      refine take_L (i := 0) rfl (by kernel_rfl) (by kernel_rfl) (by kernel_rfl) (by kernel_rfl) (fun _ _ _ _ h => h) (by exact hHeld) (fun K hK => ?_)
      go_simp
      refine hK _ ?_
      clear hK K
      refine take_L (i := 1) rfl (by kernel_rfl) (by kernel_rfl) (by kernel_rfl) (by kernel_rfl) (fun _ _ _ _ h => h) (by exact hHeld) (fun K hK => ?_)
      go_simp
      refine hK _ ?_
      clear hK K
      refine take_L (i := 2) rfl (by kernel_rfl) (by kernel_rfl) (by kernel_rfl) (by kernel_rfl) (fun _ _ _ _ h => h) (by exact hHeld) (fun K hK => ?_)
      go_simp
      refine hK _ ?_
      clear hK K
      refine take_L (i := 3) rfl (by kernel_rfl) (by kernel_rfl) (by kernel_rfl) (by kernel_rfl) (fun _ _ _ _ h => h) (by exact hHeld) (fun K hK => ?_)
      go_simp
      refine hK _ ?_
      clear hK K
      refine take_L (i := 4) rfl (by kernel_rfl) (by kernel_rfl) (by kernel_rfl) (by kernel_rfl) (fun _ _ _ _ h => h) (by exact hHeld) (fun K hK => ?_)
      go_simp
      refine hK _ ?_
      clear hK K
      refine take_L (i := 5) rfl (by kernel_rfl) (by kernel_rfl) (by kernel_rfl) (by kernel_rfl) (fun _ _ _ _ h => h) (by exact hHeld) (fun K hK => ?_)
      go_simp
      refine hK _ ?_
      clear hK K
      refine take_L (i := 6) rfl (by kernel_rfl) (by kernel_rfl) (by kernel_rfl) (by kernel_rfl) (fun _ _ _ _ h => h) (by exact hHeld) (fun K hK => ?_)
      go_simp
      refine hK _ ?_
      clear hK K
      refine take_L (i := 7) rfl (by kernel_rfl) (by kernel_rfl) (by kernel_rfl) (by kernel_rfl) (fun _ _ _ _ h => h) (by exact hHeld) (fun K hK => ?_)
      go_simp
      refine hK _ ?_
      clear hK K
      refine take_L (i := 8) rfl (by kernel_rfl) (by kernel_rfl) (by kernel_rfl) (by kernel_rfl) (fun _ _ _ _ h => h) (by exact hHeld) (fun K hK => ?_)
      go_simp
      refine hK _ ?_
      clear hK K
      refine take_L (i := 9) rfl (by kernel_rfl) (by kernel_rfl) (by kernel_rfl) (by kernel_rfl) (fun _ _ _ _ h => h) (by exact hHeld) (fun K hK => ?_)
      go_simp
      refine hK _ ?_
      clear hK K
      refine take_L (i := 10) rfl (by kernel_rfl) (by kernel_rfl) (by kernel_rfl) (by kernel_rfl) (fun _ _ _ _ h => h) (by exact hHeld) (fun K hK => ?_)
      go_simp
      refine hK _ ?_
      clear hK K
      refine take_L (i := 11) rfl (by kernel_rfl) (by kernel_rfl) (by kernel_rfl) (by kernel_rfl) (fun _ _ _ _ h => h) (by exact hHeld) (fun K hK => ?_)
      go_simp
      refine hK _ ?_
      clear hK K
      refine take_L (i := 12) rfl (by kernel_rfl) (by kernel_rfl) (by kernel_rfl) (by kernel_rfl) (fun _ _ _ _ h => h) (by exact hHeld) (fun K hK => ?_)
      go_simp
      refine hK _ ?_
      clear hK K
      refine take_L (i := 13) rfl (by kernel_rfl) (by kernel_rfl) (by kernel_rfl) (by kernel_rfl) (fun _ _ _ _ h => h) (by exact hHeld) (fun K hK => ?_)
      go_simp
      refine hK _ ?_
      clear hK K
      refine take_L (i := 14) rfl (by kernel_rfl) (by kernel_rfl) (by kernel_rfl) (by kernel_rfl) (fun _ _ _ _ h => h) (by exact hHeld) (fun K hK => ?_)
      go_simp
      refine hK _ ?_
      clear hK K
      refine take_L (i := 15) rfl (by kernel_rfl) (by kernel_rfl) (by kernel_rfl) (by kernel_rfl) (fun _ _ _ _ h => h) (by exact hHeld) (fun K hK => ?_)
      go_simp
      refine hK _ ?_
      clear hK K
      refine take_L (i := 16) rfl (by kernel_rfl) (by kernel_rfl) (by kernel_rfl) (by kernel_rfl) (fun _ _ _ _ h => h) (by exact hHeld) (fun K hK => ?_)
      go_simp
      refine hK _ ?_
      clear hK K
      refine take_L (i := 17) rfl (by kernel_rfl) (by kernel_rfl) (by kernel_rfl) (by kernel_rfl) (fun _ _ _ _ h => h) (by exact hHeld) (fun K hK => ?_)
      go_simp
      refine hK _ ?_
      clear hK K
      refine take_L (i := 18) rfl (by kernel_rfl) (by kernel_rfl) (by kernel_rfl) (by kernel_rfl) (fun _ _ _ _ h => h) (by exact hHeld) (fun K hK => ?_)
      go_simp
      refine hK _ ?_
      clear hK K
      refine take_L (i := 19) rfl (by kernel_rfl) (by kernel_rfl) (by kernel_rfl) (by kernel_rfl) (fun _ _ _ _ h => h) (by exact hHeld) (fun K hK => ?_)
      go_simp
      refine hK _ ?_
      clear hK K
      refine take_L (i := 20) rfl (by kernel_rfl) (by kernel_rfl) (by kernel_rfl) (by kernel_rfl) (fun _ _ _ _ h => h) (by exact hHeld) (fun K hK => ?_)
      go_simp
      refine hK _ ?_
      clear hK K
      refine take_L (i := 21) rfl (by kernel_rfl) (by kernel_rfl) (by kernel_rfl) (by kernel_rfl) (fun _ _ _ _ h => h) (by exact hHeld) (fun K hK => ?_)
      go_simp
      refine hK _ ?_
      clear hK K
      refine take_L (i := 22) rfl (by kernel_rfl) (by kernel_rfl) (by kernel_rfl) (by kernel_rfl) (fun _ _ _ _ h => h) (by exact hHeld) (fun K hK => ?_)
      go_simp
      refine hK _ ?_
      clear hK K
      refine take_L (i := 23) rfl (by kernel_rfl) (by kernel_rfl) (by kernel_rfl) (by kernel_rfl) (fun _ _ _ _ h => h) (by exact hHeld) (fun K hK => ?_)
      go_simp
      refine hK _ ?_
      clear hK K
      refine take_L (i := 24) rfl (by kernel_rfl) (by kernel_rfl) (by kernel_rfl) (by kernel_rfl) (fun _ _ _ _ h => h) (by exact hHeld) (fun K hK => ?_)
      go_simp
      refine hK _ ?_
      clear hK K
      refine take_L (i := 25) rfl (by kernel_rfl) (by kernel_rfl) (by kernel_rfl) (by kernel_rfl) (fun _ _ _ _ h => h) (by exact hHeld) (fun K hK => ?_)
      go_simp
      refine hK _ ?_
      clear hK K
      refine take_L (i := 26) rfl (by kernel_rfl) (by kernel_rfl) (by kernel_rfl) (by kernel_rfl) (fun _ _ _ _ h => h) (by exact hHeld) (fun K hK => ?_)
      go_simp
      refine hK _ ?_
      clear hK K
      refine take_L (i := 27) rfl (by kernel_rfl) (by kernel_rfl) (by kernel_rfl) (by kernel_rfl) (fun _ _ _ _ h => h) (by exact hHeld) (fun K hK => ?_)
      go_simp
      refine hK _ ?_
      clear hK K
      have Hpb : Hid (wr.heap.size ≤ va.heap.size) := hHeld.size
      refine one_L (i := 28) (by kernel_rfl) rfl (fun K hK => ?_)
      go_simp
      replace hHeld : Below wr.heap.size wr (va.alloc (.cells #[.int .i64 0, .int .i64 0, .int .i64 0] 64)) := hHeld.alloc hHeld.size _
      refine hK.out _ _ (fun _ => hHeld) ?_
      clear hK K y1 y2 y3 hne u1 u2 u3 u4 u5 w2' w3' r1 r2 r3 r4
      have HD4 : Hid ((va.alloc (.cells #[.int .i64 0, .int .i64 0, .int .i64 0] 64)).heap[va.heap.size]? = some (.cells #[.int .i64 0, .int .i64 0, .int .i64 0] 64 (0, 0))) := heap_alloc_new va _
      generalize va.alloc (.cells #[.int .i64 0, .int .i64 0, .int .i64 0] 64) = W4 at *
      generalize va.heap.size = pb at *
      clear va
      have p0 : W4.cell? ⟨pb, 0, none⟩ = some (.int .i64 0) := (cell_of_row W4 pb 0 _ 64 (0, 0) HD4.out).trans rfl
      have p1 : W4.cell? ⟨pb, 1, none⟩ = some (.int .i64 0) := (cell_of_row W4 pb 1 _ 64 (0, 0) HD4.out).trans rfl
      have p2 : W4.cell? ⟨pb, 2, none⟩ = some (.int .i64 0) := (cell_of_row W4 pb 2 _ 64 (0, 0) HD4.out).trans rfl
      have f0 : W4.frozen? ⟨pb, 0, none⟩ = false := frozen_of_row W4 pb 0 _ 64 HD4.out
      have f1 : W4.frozen? ⟨pb, 1, none⟩ = false := frozen_of_row W4 pb 1 _ 64 HD4.out
      have f2 : W4.frozen? ⟨pb, 2, none⟩ = false := frozen_of_row W4 pb 2 _ 64 HD4.out
      have hb5 : Below wr.heap.size wr (((W4.setCell ⟨pb, 0, none⟩ (.int .i64 PX)).setCell ⟨pb, 1, none⟩ (.int .i64 PY)).setCell ⟨pb, 2, none⟩ (.int .i64 PZ)) := ((hHeld.setCell (p := ⟨pb, 0, none⟩) Hpb.out _).setCell (p := ⟨pb, 1, none⟩) Hpb.out _).setCell (p := ⟨pb, 2, none⟩) Hpb.out _
      have HD5 : Hid ((((W4.setCell ⟨pb, 0, none⟩ (.int .i64 PX)).setCell ⟨pb, 1, none⟩ (.int .i64 PY)).setCell ⟨pb, 2, none⟩ (.int .i64 PZ)).heap[pb]? = some (.cells #[.int .i64 PX, .int .i64 PY, .int .i64 PZ] 64 (0, 0))) := by show _ = _; rw [heap_setCell_same _ pb 2 _ 64 _ (heap_setCell_same _ pb 1 _ 64 _ (heap_setCell_same W4 pb 0 _ 64 _ HD4.out))]; rfl
      refine one_L (i := 29) (by kernel_rfl) rfl (fun K hK => ?_)
      go_simp
      refine hK.out _ _ (fun _ => hb5) ?_
      clear hK K p0 p1 p2 f0 f1 f2
      refine done_L (by kernel_rfl) ?_ _
      generalize ((W4.setCell ⟨pb, 0, none⟩ (.int .i64 PX)).setCell ⟨pb, 1, none⟩ (.int .i64 PY)).setCell ⟨pb, 2, none⟩ (.int .i64 PZ) = W5 at *
      clear hHeld HD4 Hpb W4
      have HB5 : Hid (Below w.heap.size w W5) := HB.out.trans (hb5.mono HB.out.size)
      have HX5 : Hid (W5.heap[w.heap.size]? = some (.cells #[.int .i64 cx, .int .i64 cz] 24 (0, 0))) := (hb5.block _ (Array.getElem?_eq_some_iff.1 HX.out).1).trans HX.out
      have HO5 : Hid (OwnT W5 lb (.slice (some ⟨g0, 0, none⟩) l.length cv) l) := HO.out.on hb5
      have HP5 : Hid (Pre W5 og 5 ys) := HPy.out.below hb5 HPy.out.lt
      clear hb5 HB HX HO HPy
      have k0 : W5.cell? ⟨w.heap.size, 0, none⟩ = some (.int .i64 cx) := (cell_of_row W5 w.heap.size 0 _ 24 (0, 0) HX5.out).trans rfl
      have k1 : W5.cell? ⟨w.heap.size, 1, none⟩ = some (.int .i64 cz) := (cell_of_row W5 w.heap.size 1 _ 24 (0, 0) HX5.out).trans rfl
      have p0 : W5.cell? ⟨pb, 0, none⟩ = some (.int .i64 PX) := (cell_of_row W5 pb 0 _ 64 (0, 0) HD5.out).trans rfl
      have p1 : W5.cell? ⟨pb, 1, none⟩ = some (.int .i64 PY) := (cell_of_row W5 pb 1 _ 64 (0, 0) HD5.out).trans rfl
      have p2 : W5.cell? ⟨pb, 2, none⟩ = some (.int .i64 PZ) := (cell_of_row W5 pb 2 _ 64 (0, 0) HD5.out).trans rfl
      obtain ⟨bpx0, bpx1⟩ := bpx
      obtain ⟨bpy0, bpy1⟩ := bpy
      obtain ⟨bpz0, bpz1⟩ := bpz
      obtain ⟨XR, hXR⟩ : ∃ v : Int, PX - cx * 16 = v := ⟨_, rfl⟩
      obtain ⟨ZR, hZR⟩ : ∃ v : Int, PZ - cz * 16 = v := ⟨_, rfl⟩
      have Hsk : Hid ((XR < 0 ∨ 15 < XR ∨ ZR < 0 ∨ 15 < ZR ∨ 128 ≤ PY) → MidB cx cz t bs zs (N + 1) ys) := fun h => HM.out.no Hokt.out.2.2.2.2 (fun j hj e1 e2 e3 => by
        rw [Hp.out.1] at e1
        rw [Hp.out.2.1] at e2
        rw [Hp.out.2.2] at e3
        unfold jx at e1
        unfold jy at e2
        unfold jz at e3
        omega)
      by_cases q1 : XR < 0
      · have HM2 : Hid (MidB cx cz t bs zs (N + 1) ys) := Hsk.out (.inl q1)
        clear Hsk HM HPost Hdone HPz
        go_wp2
        exact ⟨⟨N + 1, by omega, by simp, ⟨ys, HM2.out, HP5.out⟩, HO5, HX5, HB5⟩, by simp [intOf]; omega⟩
      by_cases q2 : 15 < XR
      · have HM2 : Hid (MidB cx cz t bs zs (N + 1) ys) := Hsk.out (.inr (.inl q2))
        clear Hsk HM HPost Hdone HPz
        go_wp2
        exact ⟨⟨N + 1, by omega, by simp, ⟨ys, HM2.out, HP5.out⟩, HO5, HX5, HB5⟩, by simp [intOf]; omega⟩
      by_cases q3 : ZR < 0
      · have HM2 : Hid (MidB cx cz t bs zs (N + 1) ys) := Hsk.out (.inr (.inr (.inl q3)))
        clear Hsk HM HPost Hdone HPz
        go_wp2
        exact ⟨⟨N + 1, by omega, by simp, ⟨ys, HM2.out, HP5.out⟩, HO5, HX5, HB5⟩, by simp [intOf]; omega⟩
      by_cases q4 : 15 < ZR
      · have HM2 : Hid (MidB cx cz t bs zs (N + 1) ys) := Hsk.out (.inr (.inr (.inr (.inl q4))))
        clear Hsk HM HPost Hdone HPz
        go_wp2
        exact ⟨⟨N + 1, by omega, by simp, ⟨ys, HM2.out, HP5.out⟩, HO5, HX5, HB5⟩, by simp [intOf]; omega⟩
      by_cases q5 : 128 ≤ PY
      · have HM2 : Hid (MidB cx cz t bs zs (N + 1) ys) := Hsk.out (.inr (.inr (.inr (.inr q5))))
        clear Hsk HM HPost Hdone HPz
        go_wp2
        exact ⟨⟨N + 1, by omega, by simp, ⟨ys, HM2.out, HP5.out⟩, HO5, HX5, HB5⟩, by simp [intOf]; omega⟩
      clear Hsk
      obtain ⟨J, hJ⟩ : ∃ J : Nat, (J : Int) = PY * 256 + ZR * 16 + XR := ⟨(PY * 256 + ZR * 16 + XR).toNat, by omega⟩
      have hJl : J < 32768 := by omega
      have hJ2 : PY * 256 + ZR * 16 + XR = (J : Int) := hJ.symm
      have hjx : jx cx J = PX := by unfold jx; omega
      have hjy : jy J = PY := by unfold jy; omega
      have hjz : jz cz J = PZ := by unfold jz; omega
      have HM2 : Hid (MidB cx cz t bs zs (N + 1) (match cj cx cz t bs J with | some v => ys.set J v | none => ys)) := HM.out.yes Hokt.out.2.2.2.2 hJl (hjx.trans Hp.out.1.symm) (hjy.trans Hp.out.2.1.symm) (hjz.trans Hp.out.2.2.symm)
      have Hyl : Hid (ys.length = 32768) := HM.out.1
      have hcj : cj cx cz t bs J = clm t PX PY PZ (bs.getD J 0) := by unfold cj; rw [hjx, hjy, hjz]
      rw [hcj] at HM2
      have hkd := HBs.out.2.2.at J
      have hcb : Pre W5 bg 5 bs := HBs.out.1.below HB5.out HBs.out.1.lt
      have cb := hcb.cell (k := J) (by rw [HBs.out.2.1]; exact hJl)
      have hcl := fun w' => rclaim_c t PX PY PZ (bs.getD J 0) w' Hokt.out.1 (by omega) (by omega) (by omega) (by have := Hokt.out.2.1; omega) (by have := Hokt.out.2.2.1; omega) (by have := Hokt.out.2.2.2.1; omega) Hokt.out.2.2.2.2
      have hte : ∀ o, told o = .returned (.tuple #[.int .i64 (o.getD 0), .bool o.isSome]) := fun _ => rfl
      simp only [hte] at hcl
      have Hmd : Hid (∀ v, clm t PX PY PZ (bs.getD J 0) = some v → 0 ≤ v ∧ v ≤ 14) := fun v e => by have := clm_made e; unfold Made at this; omega
      generalize clm t PX PY PZ (bs.getD J 0) = o at *
      generalize bs.getD J 0 = bk at *
      have Hcl : Hid (∀ w', Calls Tryz.prog 28 #[thingV t, .agg #[.int .i64 PX, .int .i64 PY, .int .i64 PZ], .int .i64 bk] w' fun e w'' => e = .returned (.tuple #[.int .i64 (o.getD 0), .bool o.isSome]) ∧ Below w'.heap.size w' w'') := hcl
      clear hcl hte hcj hjx hjy hjz hcb HM
      unfold thingV at Hcl
      obtain ⟨_, _, e0, _, hcells⟩ := HO5.out.cell (by omega)
      cases e0
      have t0 := (hcells n t Ht.out 0 (by omega)).trans (show (rowV t)[0]? = some (.int .i64 (t.s : Int)) from rfl)
      have t1 := (hcells n t Ht.out 1 (by omega)).trans (show (rowV t)[1]? = some (.int .i64 t.x) from rfl)
      have t2 := (hcells n t Ht.out 2 (by omega)).trans (show (rowV t)[2]? = some (.int .i64 t.z) from rfl)
      have t3 := (hcells n t Ht.out 3 (by omega)).trans (show (rowV t)[3]? = some (.int .i64 t.h) from rfl)
      have t4 := (hcells n t Ht.out 4 (by omega)).trans (show (rowV t)[4]? = some (.int .i64 t.l) from rfl)
      rw [Nat.add_zero] at t0
      clear hcells hJ
      have hJ' : (J : Int) < 32768 := by omega
      go_wp2_with fail
      have hsome := since_some W5
      have s0 := fun s : Since W5 => Since.cell t0 s
      have s1 := fun s : Since W5 => Since.cell t1 s
      have s2 := fun s : Since W5 => Since.cell t2 s
      have s3 := fun s : Since W5 => Since.cell t3 s
      have s4 := fun s : Since W5 => Since.cell t4 s
      have a0 := fun s : Since W5 => Since.cell p0 s
      have a1 := fun s : Since W5 => Since.cell p1 s
      have a2 := fun s : Since W5 => Since.cell p2 s
      have ab := fun s : Since W5 => Since.cell cb s
      refine wp_region_since (by kernel_rfl) (by kernel_rfl) ?_
      repeat (go_big_quiet_step (first | (go_at_call 28; exact Calls.since (Hcl.out _))))
      refine wpQuiet_nil ?_
      rintro _ ⟨s, rfl⟩
      have HB6 : Hid (Below w.heap.size w s.w) := HB5.out.trans (s.bel.mono HB5.out.size)
      have HX6 : Hid (s.w.heap[w.heap.size]? = some (.cells #[.int .i64 cx, .int .i64 cz] 24 (0, 0))) := (s.bel.block _ (Array.getElem?_eq_some_iff.1 HX5.out).1).trans HX5.out
      have HO6 : Hid (OwnT s.w lb (.slice (some ⟨g0, 0, none⟩) l.length cv) l) := HO5.out.on s.bel
      have HP6 : Hid (Pre s.w og 5 ys) := HP5.out.below s.bel HP5.out.lt
      generalize s.w = W6 at *
      clear hsome s0 s1 s2 s3 s4 a0 a1 a2 ab t0 t1 t2 t3 t4 p0 p1 p2 k0 k1 cb HB5 HX5 HO5 HP5 HD5 Hcl
      rcases o with _ | v
      · clear HPost Hdone HPz Hmd
        have HM3 : Hid (MidB cx cz t bs zs (N + 1) ys) := HM2.out
        clear HM2
        go_wp2
        exact ⟨⟨N + 1, by omega, by simp, ⟨ys, HM3.out, HP6.out⟩, HO6, HX6, HB6⟩, by simp [intOf]; omega⟩
      · obtain ⟨v0, v1⟩ := Hmd.out v rfl
        have HM3 : Hid (MidB cx cz t bs zs (N + 1) (ys.set J v)) := HM2.out
        have c0 := HP6.out.cell (k := J) (by rw [Hyl.out]; exact hJl)
        have f0 := HP6.out.free J
        have HB7 : Hid (Below w.heap.size w (W6.setCell ⟨og, J, none⟩ (.int .u8 v))) := HB6.out.setCell (p := ⟨og, J, none⟩) (Nat.le_of_lt Hog.out) _
        have HX7 : Hid ((W6.setCell ⟨og, J, none⟩ (.int .u8 v)).heap[w.heap.size]? = some (.cells #[.int .i64 cx, .int .i64 cz] 24 (0, 0))) := (Below.heap_setCell W6 ⟨og, J, none⟩ _ _ (Nat.ne_of_lt Hog.out)).trans HX6.out
        have HO7 : Hid (OwnT (W6.setCell ⟨og, J, none⟩ (.int .u8 v)) lb (.slice (some ⟨g0, 0, none⟩) l.length cv) l) := HO6.out.low Hlo.out _
        have HP7 : Hid (Pre (W6.setCell ⟨og, J, none⟩ (.int .u8 v)) og 5 (ys.set J v)) := HP6.out.set J v
        generalize ys.getD J 0 = yv at c0
        clear HPost Hdone HPz Hmd HM2 HB6 HX6 HO6 HP6
        go_wp2
        exact ⟨⟨N + 1, by omega, by simp, ⟨ys.set J v, HM3.out, HP7.out⟩, HO7, HX7, HB7⟩, by simp [intOf]; omega⟩
end
end Go.Proofs.YtbdjgaagafnfaaaGreat
