/-
  The landed build: where the feature of an origin stands.
-/
import Derived.Test.YtbdjgaagafnfaaaPpart
import Derived.Test.YtbdjgaagafnfaaaRHash
set_option maxRecDepth 20000
namespace Go.Proofs.Ytbdjgaagafnfaaa
open C Go.RowKit R

theorem results_tmp4 {fn : Func} {t u v x : Tmp} (h : fn.results = #[.tmp t, .tmp u, .tmp v, .tmp x]) (tmps : Array Value) (P : Program) (w : World) :
    (results fn tmps).run P w = .ok (.tuple #[tmps.getD t undef, tmps.getD u undef, tmps.getD v undef, tmps.getD x undef]) w := by
  simp [results, h]
/-- How features of a sort lie, by value. -/
def scA (s : Nat) : Array Value := if s = 0 then #[.int .i64 41, .int .i64 35, .int .i64 32, .int .i64 8, .int .i64 4, .func (.func 56) #[] #[]] else if s = 1 then #[.int .i64 42, .int .i64 20, .int .i64 16, .int .i64 0, .int .i64 4, .func (.func 57) #[] #[]] else #[.int .i64 40, .int .i64 70, .int .i64 8, .int .i64 0, .int .i64 3, .func (.func 58) #[] #[]]
def colSay (s h : Nat) (ox oz : Int) : Ending := if belowN h 100 < some_ s then .returned (.tuple #[.int .i64 (colX s h ox), .int .i64 (colZ s h oz), .int .u64 (h : Int), .bool true]) else .returned (.tuple #[.int .i64 0, .int .i64 0, .int .u64 0, .bool false])

set_option maxHeartbeats 2000000 in
theorem column_0 (S : Nat) (ox oz : Int) (w : World) (hS : S < 18446744073709551616) (hx : Far 1099511627776 ox) (hz : Far 1099511627776 oz) :
    Calls Try.prog 75 #[.agg (scA 0), .int .u64 S, .int .i64 ox, .int .i64 oz] w fun e w' => e = colSay 0 (hT S 0 ox oz) ox oz ∧ Below w.heap.size w w' := by
  obtain ⟨Post, hPost⟩ : ∃ Post : Ending → World → Prop, Post = fun e w' => e = colSay 0 (hT S 0 ox oz) ox oz ∧ Below w.heap.size w w' := ⟨_, rfl⟩
  rw [← hPost]
  have HP : Hid (∀ e w', colSay 0 (hT S 0 ox oz) ox oz = e → Below w.heap.size w w' → Post e w') := fun e w' h1 h2 => by rw [hPost, h1]; exact ⟨rfl, h2⟩
  clear hPost
  have hlt : hT S 0 ox oz < 18446744073709551616 := hashN_lt S 41 ox 0 oz
  have hh : ∀ w, Calls Try.prog 81 #[.int .u64 S, .int .i64 41, .int .i64 ox, .int .i64 0, .int .i64 oz] w fun e w' => e = .returned (.int .u64 (hT S 0 ox oz)) ∧ w' = w := fun w => hash_any S 41 ox 0 oz w hS
  generalize hT S 0 ox oz = h at *
  have hb := fun w => below_any h 100 w hlt (by omega)
  have b1 := bits8_4_c h
  have b2 := bits12_4_c h
  have Hno : Hid (¬ belowN h 100 < 35 → colSay 0 h ox oz = .returned (.tuple #[.int .i64 0, .int .i64 0, .int .u64 0, .bool false])) := fun q => by unfold colSay; exact if_neg q
  have Hyes : Hid (belowN h 100 < 35 → colSay 0 h ox oz = .returned (.tuple #[.int .i64 (colX 0 h ox), .int .i64 (colZ 0 h oz), .int .u64 (h : Int), .bool true])) := fun q => by unfold colSay; exact if_pos q
  have cX : colX 0 h ox = ox * 32 + 8 + ((h / 256 % 16 : Nat) : Int) := by unfold colX; rw [if_pos rfl]; omega
  have cZ : colZ 0 h oz = oz * 32 + 8 + ((h / 4096 % 16 : Nat) : Int) := by unfold colZ; rw [if_pos rfl]; omega
  generalize colX 0 h ox = CX at *
  generalize colZ 0 h oz = CZ at *
  have m1 : h / 256 % 16 < 16 := Nat.mod_lt _ (by omega)
  have m2 : h / 4096 % 16 < 16 := Nat.mod_lt _ (by omega)
  generalize h / 256 % 16 = M at *
  generalize h / 4096 % 16 = N at *
  generalize belowN h 100 = P at *
  unfold Far at hx hz
  have wx1 : IntKind.i64.wrap (ox * 32) = ox * 32 := by rw [IntKind.wrap_i64]; omega
  have wx2 : IntKind.i64.wrap (ox * 32 + 8) = ox * 32 + 8 := by rw [IntKind.wrap_i64]; omega
  have wx3 : IntKind.i64.wrap (ox * 32 + 8 + (M : Int)) = CX := by rw [IntKind.wrap_i64]; omega
  have wz1 : IntKind.i64.wrap (oz * 32) = oz * 32 := by rw [IntKind.wrap_i64]; omega
  have wz2 : IntKind.i64.wrap (oz * 32 + 8) = oz * 32 + 8 := by rw [IntKind.wrap_i64]; omega
  have wz3 : IntKind.i64.wrap (oz * 32 + 8 + (N : Int)) = CZ := by rw [IntKind.wrap_i64]; omega
  clear cX cZ hx hz m1 m2 hlt
  show Calls Try.prog 75 #[.agg #[.int .i64 41, .int .i64 35, .int .i64 32, .int .i64 8, .int .i64 4, .func (.func 56) #[] #[]], .int .u64 S, .int .i64 ox, .int .i64 oz] w Post
  have HB : Hid (Below w.heap.size w (w.alloc (.cells #[.int .i64 41, .int .i64 35, .int .i64 32, .int .i64 8, .int .i64 4, .func (.func 56) #[] #[]] 91))) := (Below.refl _ _).alloc (Nat.le_refl _) _
  have HX : Hid ((w.alloc (.cells #[.int .i64 41, .int .i64 35, .int .i64 32, .int .i64 8, .int .i64 4, .func (.func 56) #[] #[]] 91)).heap[w.heap.size]? = some (.cells #[.int .i64 41, .int .i64 35, .int .i64 32, .int .i64 8, .int .i64 4, .func (.func 56) #[] #[]] 91 (0, 0))) := heap_alloc_new w _
  go_enter Try.func75, Try.ntmps75
  go_wp2_with (go_at_call 81; refine (hh _).mono ?_; rintro _ w1 ⟨rfl, rfl⟩)
  clear hh
  generalize w.alloc (.cells #[.int .i64 41, .int .i64 35, .int .i64 32, .int .i64 8, .int .i64 4, .func (.func 56) #[] #[]] 91) = W at *
  have hsome := since_some W
  have k0 := fun s : Since W => Since.cell ((cell_of_row W w.heap.size 0 _ 91 (0, 0) HX.out).trans rfl) s
  have k1 := fun s : Since W => Since.cell ((cell_of_row W w.heap.size 1 _ 91 (0, 0) HX.out).trans rfl) s
  have k2 := fun s : Since W => Since.cell ((cell_of_row W w.heap.size 2 _ 91 (0, 0) HX.out).trans rfl) s
  have k3 := fun s : Since W => Since.cell ((cell_of_row W w.heap.size 3 _ 91 (0, 0) HX.out).trans rfl) s
  have k4 := fun s : Since W => Since.cell ((cell_of_row W w.heap.size 4 _ 91 (0, 0) HX.out).trans rfl) s
  have k5 := fun s : Since W => Since.cell ((cell_of_row W w.heap.size 5 _ 91 (0, 0) HX.out).trans rfl) s
  refine wp_region_since (by kernel_rfl) (by kernel_rfl) ?_
  repeat (go_big_quiet_step (first | (go_at_call 82; exact Calls.since_same (hb _))))
  refine wpQuiet_nil ?_
  rintro _ ⟨s, rfl⟩
  have HB1 : Hid (Below w.heap.size w s.w) := HB.out.trans (s.bel.mono HB.out.size)
  have HX1 : Hid (s.w.heap[w.heap.size]? = some (.cells #[.int .i64 41, .int .i64 35, .int .i64 32, .int .i64 8, .int .i64 4, .func (.func 56) #[] #[]] 91 (0, 0))) := (s.bel.block _ (Array.getElem?_eq_some_iff.1 HX.out).1).trans HX.out
  generalize s.w = W1 at *
  clear hsome k0 k1 k2 k3 k4 k5 HB HX
  by_cases hP : 35 ≤ P
  · have R := HP.out _ _ (Hno.out (by omega)) HB1.out
    have hP' : decide (35 ≤ P) = true := decide_eq_true hP
    clear HP Hno Hyes HB1 HX1
    go_wp2
    exact bodyPost_ret (results_tmp4 (t := 8) (u := 9) (v := 10) (x := 11) rfl _ _ _) rfl R
  have hP' : decide (35 ≤ P) = false := decide_eq_false hP
  have HE := Hyes.out (by omega)
  clear Hno Hyes
  go_wp2_with fail
  have hsome := since_some W1
  have k0 := fun s : Since W1 => Since.cell ((cell_of_row W1 w.heap.size 0 _ 91 (0, 0) HX1.out).trans rfl) s
  have k1 := fun s : Since W1 => Since.cell ((cell_of_row W1 w.heap.size 1 _ 91 (0, 0) HX1.out).trans rfl) s
  have k2 := fun s : Since W1 => Since.cell ((cell_of_row W1 w.heap.size 2 _ 91 (0, 0) HX1.out).trans rfl) s
  have k3 := fun s : Since W1 => Since.cell ((cell_of_row W1 w.heap.size 3 _ 91 (0, 0) HX1.out).trans rfl) s
  have k4 := fun s : Since W1 => Since.cell ((cell_of_row W1 w.heap.size 4 _ 91 (0, 0) HX1.out).trans rfl) s
  have k5 := fun s : Since W1 => Since.cell ((cell_of_row W1 w.heap.size 5 _ 91 (0, 0) HX1.out).trans rfl) s
  refine wp_region_since (by kernel_rfl) (by kernel_rfl) ?_
  repeat (go_big_quiet_step (first | (go_at_call 72; exact Calls.since (b1 _))))
  refine wpQuiet_nil ?_
  rintro _ ⟨s, rfl⟩
  have HB2 : Hid (Below w.heap.size w s.w) := HB1.out.trans (s.bel.mono HB1.out.size)
  have HX2 : Hid (s.w.heap[w.heap.size]? = some (.cells #[.int .i64 41, .int .i64 35, .int .i64 32, .int .i64 8, .int .i64 4, .func (.func 56) #[] #[]] 91 (0, 0))) := (s.bel.block _ (Array.getElem?_eq_some_iff.1 HX1.out).1).trans HX1.out
  generalize s.w = W2 at *
  clear hsome k0 k1 k2 k3 k4 k5 HB1 HX1
  go_wp2_with fail
  have hsome := since_some W2
  have k0 := fun s : Since W2 => Since.cell ((cell_of_row W2 w.heap.size 0 _ 91 (0, 0) HX2.out).trans rfl) s
  have k1 := fun s : Since W2 => Since.cell ((cell_of_row W2 w.heap.size 1 _ 91 (0, 0) HX2.out).trans rfl) s
  have k2 := fun s : Since W2 => Since.cell ((cell_of_row W2 w.heap.size 2 _ 91 (0, 0) HX2.out).trans rfl) s
  have k3 := fun s : Since W2 => Since.cell ((cell_of_row W2 w.heap.size 3 _ 91 (0, 0) HX2.out).trans rfl) s
  have k4 := fun s : Since W2 => Since.cell ((cell_of_row W2 w.heap.size 4 _ 91 (0, 0) HX2.out).trans rfl) s
  have k5 := fun s : Since W2 => Since.cell ((cell_of_row W2 w.heap.size 5 _ 91 (0, 0) HX2.out).trans rfl) s
  refine wp_region_since (by kernel_rfl) (by kernel_rfl) ?_
  repeat (go_big_quiet_step (first | (go_at_call 72; exact Calls.since (b2 _))))
  refine wpQuiet_nil ?_
  rintro _ ⟨s, rfl⟩
  have HB3 : Hid (Below w.heap.size w s.w) := HB2.out.trans (s.bel.mono HB2.out.size)
  have HX3 : Hid (s.w.heap[w.heap.size]? = some (.cells #[.int .i64 41, .int .i64 35, .int .i64 32, .int .i64 8, .int .i64 4, .func (.func 56) #[] #[]] 91 (0, 0))) := (s.bel.block _ (Array.getElem?_eq_some_iff.1 HX2.out).1).trans HX2.out
  generalize s.w = W3 at *
  clear hsome k0 k1 k2 k3 k4 k5 HB2 HX2
  have R := HP.out _ _ HE HB3.out
  clear HP HB3 HX3 HE
  go_wp2
  exact bodyPost_ret (results_tmp4 (t := 8) (u := 9) (v := 10) (x := 11) rfl _ _ _) rfl R
set_option maxHeartbeats 2000000 in
theorem column_1 (S : Nat) (ox oz : Int) (w : World) (hS : S < 18446744073709551616) (hx : Far 1099511627776 ox) (hz : Far 1099511627776 oz) :
    Calls Try.prog 75 #[.agg (scA 1), .int .u64 S, .int .i64 ox, .int .i64 oz] w fun e w' => e = colSay 1 (hT S 1 ox oz) ox oz ∧ Below w.heap.size w w' := by
  obtain ⟨Post, hPost⟩ : ∃ Post : Ending → World → Prop, Post = fun e w' => e = colSay 1 (hT S 1 ox oz) ox oz ∧ Below w.heap.size w w' := ⟨_, rfl⟩
  rw [← hPost]
  have HP : Hid (∀ e w', colSay 1 (hT S 1 ox oz) ox oz = e → Below w.heap.size w w' → Post e w') := fun e w' h1 h2 => by rw [hPost, h1]; exact ⟨rfl, h2⟩
  clear hPost
  have hlt : hT S 1 ox oz < 18446744073709551616 := hashN_lt S 42 ox 0 oz
  have hh : ∀ w, Calls Try.prog 81 #[.int .u64 S, .int .i64 42, .int .i64 ox, .int .i64 0, .int .i64 oz] w fun e w' => e = .returned (.int .u64 (hT S 1 ox oz)) ∧ w' = w := fun w => hash_any S 42 ox 0 oz w hS
  generalize hT S 1 ox oz = h at *
  have hb := fun w => below_any h 100 w hlt (by omega)
  have b1 := bits8_4_c h
  have b2 := bits12_4_c h
  have Hno : Hid (¬ belowN h 100 < 20 → colSay 1 h ox oz = .returned (.tuple #[.int .i64 0, .int .i64 0, .int .u64 0, .bool false])) := fun q => by unfold colSay; exact if_neg q
  have Hyes : Hid (belowN h 100 < 20 → colSay 1 h ox oz = .returned (.tuple #[.int .i64 (colX 1 h ox), .int .i64 (colZ 1 h oz), .int .u64 (h : Int), .bool true])) := fun q => by unfold colSay; exact if_pos q
  have cX : colX 1 h ox = ox * 16 + 0 + ((h / 256 % 16 : Nat) : Int) := by unfold colX; rw [if_neg (by omega), if_pos rfl]; omega
  have cZ : colZ 1 h oz = oz * 16 + 0 + ((h / 4096 % 16 : Nat) : Int) := by unfold colZ; rw [if_neg (by omega), if_pos rfl]; omega
  generalize colX 1 h ox = CX at *
  generalize colZ 1 h oz = CZ at *
  have m1 : h / 256 % 16 < 16 := Nat.mod_lt _ (by omega)
  have m2 : h / 4096 % 16 < 16 := Nat.mod_lt _ (by omega)
  generalize h / 256 % 16 = M at *
  generalize h / 4096 % 16 = N at *
  generalize belowN h 100 = P at *
  unfold Far at hx hz
  have wx1 : IntKind.i64.wrap (ox * 16) = ox * 16 := by rw [IntKind.wrap_i64]; omega
  have wx3 : IntKind.i64.wrap (ox * 16 + (M : Int)) = CX := by rw [IntKind.wrap_i64]; omega
  have wz1 : IntKind.i64.wrap (oz * 16) = oz * 16 := by rw [IntKind.wrap_i64]; omega
  have wz3 : IntKind.i64.wrap (oz * 16 + (N : Int)) = CZ := by rw [IntKind.wrap_i64]; omega
  clear cX cZ hx hz m1 m2 hlt
  show Calls Try.prog 75 #[.agg #[.int .i64 42, .int .i64 20, .int .i64 16, .int .i64 0, .int .i64 4, .func (.func 57) #[] #[]], .int .u64 S, .int .i64 ox, .int .i64 oz] w Post
  have HB : Hid (Below w.heap.size w (w.alloc (.cells #[.int .i64 42, .int .i64 20, .int .i64 16, .int .i64 0, .int .i64 4, .func (.func 57) #[] #[]] 91))) := (Below.refl _ _).alloc (Nat.le_refl _) _
  have HX : Hid ((w.alloc (.cells #[.int .i64 42, .int .i64 20, .int .i64 16, .int .i64 0, .int .i64 4, .func (.func 57) #[] #[]] 91)).heap[w.heap.size]? = some (.cells #[.int .i64 42, .int .i64 20, .int .i64 16, .int .i64 0, .int .i64 4, .func (.func 57) #[] #[]] 91 (0, 0))) := heap_alloc_new w _
  go_enter Try.func75, Try.ntmps75
  go_wp2_with (go_at_call 81; refine (hh _).mono ?_; rintro _ w1 ⟨rfl, rfl⟩)
  clear hh
  generalize w.alloc (.cells #[.int .i64 42, .int .i64 20, .int .i64 16, .int .i64 0, .int .i64 4, .func (.func 57) #[] #[]] 91) = W at *
  have hsome := since_some W
  have k0 := fun s : Since W => Since.cell ((cell_of_row W w.heap.size 0 _ 91 (0, 0) HX.out).trans rfl) s
  have k1 := fun s : Since W => Since.cell ((cell_of_row W w.heap.size 1 _ 91 (0, 0) HX.out).trans rfl) s
  have k2 := fun s : Since W => Since.cell ((cell_of_row W w.heap.size 2 _ 91 (0, 0) HX.out).trans rfl) s
  have k3 := fun s : Since W => Since.cell ((cell_of_row W w.heap.size 3 _ 91 (0, 0) HX.out).trans rfl) s
  have k4 := fun s : Since W => Since.cell ((cell_of_row W w.heap.size 4 _ 91 (0, 0) HX.out).trans rfl) s
  have k5 := fun s : Since W => Since.cell ((cell_of_row W w.heap.size 5 _ 91 (0, 0) HX.out).trans rfl) s
  refine wp_region_since (by kernel_rfl) (by kernel_rfl) ?_
  repeat (go_big_quiet_step (first | (go_at_call 82; exact Calls.since_same (hb _))))
  refine wpQuiet_nil ?_
  rintro _ ⟨s, rfl⟩
  have HB1 : Hid (Below w.heap.size w s.w) := HB.out.trans (s.bel.mono HB.out.size)
  have HX1 : Hid (s.w.heap[w.heap.size]? = some (.cells #[.int .i64 42, .int .i64 20, .int .i64 16, .int .i64 0, .int .i64 4, .func (.func 57) #[] #[]] 91 (0, 0))) := (s.bel.block _ (Array.getElem?_eq_some_iff.1 HX.out).1).trans HX.out
  generalize s.w = W1 at *
  clear hsome k0 k1 k2 k3 k4 k5 HB HX
  by_cases hP : 20 ≤ P
  · have R := HP.out _ _ (Hno.out (by omega)) HB1.out
    have hP' : decide (20 ≤ P) = true := decide_eq_true hP
    clear HP Hno Hyes HB1 HX1
    go_wp2
    exact bodyPost_ret (results_tmp4 (t := 8) (u := 9) (v := 10) (x := 11) rfl _ _ _) rfl R
  have hP' : decide (20 ≤ P) = false := decide_eq_false hP
  have HE := Hyes.out (by omega)
  clear Hno Hyes
  go_wp2_with fail
  have hsome := since_some W1
  have k0 := fun s : Since W1 => Since.cell ((cell_of_row W1 w.heap.size 0 _ 91 (0, 0) HX1.out).trans rfl) s
  have k1 := fun s : Since W1 => Since.cell ((cell_of_row W1 w.heap.size 1 _ 91 (0, 0) HX1.out).trans rfl) s
  have k2 := fun s : Since W1 => Since.cell ((cell_of_row W1 w.heap.size 2 _ 91 (0, 0) HX1.out).trans rfl) s
  have k3 := fun s : Since W1 => Since.cell ((cell_of_row W1 w.heap.size 3 _ 91 (0, 0) HX1.out).trans rfl) s
  have k4 := fun s : Since W1 => Since.cell ((cell_of_row W1 w.heap.size 4 _ 91 (0, 0) HX1.out).trans rfl) s
  have k5 := fun s : Since W1 => Since.cell ((cell_of_row W1 w.heap.size 5 _ 91 (0, 0) HX1.out).trans rfl) s
  refine wp_region_since (by kernel_rfl) (by kernel_rfl) ?_
  repeat (go_big_quiet_step (first | (go_at_call 72; exact Calls.since (b1 _))))
  refine wpQuiet_nil ?_
  rintro _ ⟨s, rfl⟩
  have HB2 : Hid (Below w.heap.size w s.w) := HB1.out.trans (s.bel.mono HB1.out.size)
  have HX2 : Hid (s.w.heap[w.heap.size]? = some (.cells #[.int .i64 42, .int .i64 20, .int .i64 16, .int .i64 0, .int .i64 4, .func (.func 57) #[] #[]] 91 (0, 0))) := (s.bel.block _ (Array.getElem?_eq_some_iff.1 HX1.out).1).trans HX1.out
  generalize s.w = W2 at *
  clear hsome k0 k1 k2 k3 k4 k5 HB1 HX1
  go_wp2_with fail
  have hsome := since_some W2
  have k0 := fun s : Since W2 => Since.cell ((cell_of_row W2 w.heap.size 0 _ 91 (0, 0) HX2.out).trans rfl) s
  have k1 := fun s : Since W2 => Since.cell ((cell_of_row W2 w.heap.size 1 _ 91 (0, 0) HX2.out).trans rfl) s
  have k2 := fun s : Since W2 => Since.cell ((cell_of_row W2 w.heap.size 2 _ 91 (0, 0) HX2.out).trans rfl) s
  have k3 := fun s : Since W2 => Since.cell ((cell_of_row W2 w.heap.size 3 _ 91 (0, 0) HX2.out).trans rfl) s
  have k4 := fun s : Since W2 => Since.cell ((cell_of_row W2 w.heap.size 4 _ 91 (0, 0) HX2.out).trans rfl) s
  have k5 := fun s : Since W2 => Since.cell ((cell_of_row W2 w.heap.size 5 _ 91 (0, 0) HX2.out).trans rfl) s
  refine wp_region_since (by kernel_rfl) (by kernel_rfl) ?_
  repeat (go_big_quiet_step (first | (go_at_call 72; exact Calls.since (b2 _))))
  refine wpQuiet_nil ?_
  rintro _ ⟨s, rfl⟩
  have HB3 : Hid (Below w.heap.size w s.w) := HB2.out.trans (s.bel.mono HB2.out.size)
  have HX3 : Hid (s.w.heap[w.heap.size]? = some (.cells #[.int .i64 42, .int .i64 20, .int .i64 16, .int .i64 0, .int .i64 4, .func (.func 57) #[] #[]] 91 (0, 0))) := (s.bel.block _ (Array.getElem?_eq_some_iff.1 HX2.out).1).trans HX2.out
  generalize s.w = W3 at *
  clear hsome k0 k1 k2 k3 k4 k5 HB2 HX2
  have R := HP.out _ _ HE HB3.out
  clear HP HB3 HX3 HE
  go_wp2
  exact bodyPost_ret (results_tmp4 (t := 8) (u := 9) (v := 10) (x := 11) rfl _ _ _) rfl R
set_option maxHeartbeats 2000000 in
theorem column_2 (S : Nat) (ox oz : Int) (w : World) (hS : S < 18446744073709551616) (hx : Far 1099511627776 ox) (hz : Far 1099511627776 oz) :
    Calls Try.prog 75 #[.agg (scA 2), .int .u64 S, .int .i64 ox, .int .i64 oz] w fun e w' => e = colSay 2 (hT S 2 ox oz) ox oz ∧ Below w.heap.size w w' := by
  obtain ⟨Post, hPost⟩ : ∃ Post : Ending → World → Prop, Post = fun e w' => e = colSay 2 (hT S 2 ox oz) ox oz ∧ Below w.heap.size w w' := ⟨_, rfl⟩
  rw [← hPost]
  have HP : Hid (∀ e w', colSay 2 (hT S 2 ox oz) ox oz = e → Below w.heap.size w w' → Post e w') := fun e w' h1 h2 => by rw [hPost, h1]; exact ⟨rfl, h2⟩
  clear hPost
  have hlt : hT S 2 ox oz < 18446744073709551616 := hashN_lt S 40 ox 0 oz
  have hh : ∀ w, Calls Try.prog 81 #[.int .u64 S, .int .i64 40, .int .i64 ox, .int .i64 0, .int .i64 oz] w fun e w' => e = .returned (.int .u64 (hT S 2 ox oz)) ∧ w' = w := fun w => hash_any S 40 ox 0 oz w hS
  generalize hT S 2 ox oz = h at *
  have hb := fun w => below_any h 100 w hlt (by omega)
  have b1 := bits8_3_c h
  have b2 := bits11_3_c h
  have Hno : Hid (¬ belowN h 100 < 70 → colSay 2 h ox oz = .returned (.tuple #[.int .i64 0, .int .i64 0, .int .u64 0, .bool false])) := fun q => by unfold colSay; exact if_neg q
  have Hyes : Hid (belowN h 100 < 70 → colSay 2 h ox oz = .returned (.tuple #[.int .i64 (colX 2 h ox), .int .i64 (colZ 2 h oz), .int .u64 (h : Int), .bool true])) := fun q => by unfold colSay; exact if_pos q
  have cX : colX 2 h ox = ox * 8 + 0 + ((h / 256 % 8 : Nat) : Int) := by unfold colX; rw [if_neg (by omega), if_neg (by omega)]; omega
  have cZ : colZ 2 h oz = oz * 8 + 0 + ((h / 2048 % 8 : Nat) : Int) := by unfold colZ; rw [if_neg (by omega), if_neg (by omega)]; omega
  generalize colX 2 h ox = CX at *
  generalize colZ 2 h oz = CZ at *
  have m1 : h / 256 % 8 < 8 := Nat.mod_lt _ (by omega)
  have m2 : h / 2048 % 8 < 8 := Nat.mod_lt _ (by omega)
  generalize h / 256 % 8 = M at *
  generalize h / 2048 % 8 = N at *
  generalize belowN h 100 = P at *
  unfold Far at hx hz
  have wx1 : IntKind.i64.wrap (ox * 8) = ox * 8 := by rw [IntKind.wrap_i64]; omega
  have wx3 : IntKind.i64.wrap (ox * 8 + (M : Int)) = CX := by rw [IntKind.wrap_i64]; omega
  have wz1 : IntKind.i64.wrap (oz * 8) = oz * 8 := by rw [IntKind.wrap_i64]; omega
  have wz3 : IntKind.i64.wrap (oz * 8 + (N : Int)) = CZ := by rw [IntKind.wrap_i64]; omega
  clear cX cZ hx hz m1 m2 hlt
  show Calls Try.prog 75 #[.agg #[.int .i64 40, .int .i64 70, .int .i64 8, .int .i64 0, .int .i64 3, .func (.func 58) #[] #[]], .int .u64 S, .int .i64 ox, .int .i64 oz] w Post
  have HB : Hid (Below w.heap.size w (w.alloc (.cells #[.int .i64 40, .int .i64 70, .int .i64 8, .int .i64 0, .int .i64 3, .func (.func 58) #[] #[]] 91))) := (Below.refl _ _).alloc (Nat.le_refl _) _
  have HX : Hid ((w.alloc (.cells #[.int .i64 40, .int .i64 70, .int .i64 8, .int .i64 0, .int .i64 3, .func (.func 58) #[] #[]] 91)).heap[w.heap.size]? = some (.cells #[.int .i64 40, .int .i64 70, .int .i64 8, .int .i64 0, .int .i64 3, .func (.func 58) #[] #[]] 91 (0, 0))) := heap_alloc_new w _
  go_enter Try.func75, Try.ntmps75
  go_wp2_with (go_at_call 81; refine (hh _).mono ?_; rintro _ w1 ⟨rfl, rfl⟩)
  clear hh
  generalize w.alloc (.cells #[.int .i64 40, .int .i64 70, .int .i64 8, .int .i64 0, .int .i64 3, .func (.func 58) #[] #[]] 91) = W at *
  have hsome := since_some W
  have k0 := fun s : Since W => Since.cell ((cell_of_row W w.heap.size 0 _ 91 (0, 0) HX.out).trans rfl) s
  have k1 := fun s : Since W => Since.cell ((cell_of_row W w.heap.size 1 _ 91 (0, 0) HX.out).trans rfl) s
  have k2 := fun s : Since W => Since.cell ((cell_of_row W w.heap.size 2 _ 91 (0, 0) HX.out).trans rfl) s
  have k3 := fun s : Since W => Since.cell ((cell_of_row W w.heap.size 3 _ 91 (0, 0) HX.out).trans rfl) s
  have k4 := fun s : Since W => Since.cell ((cell_of_row W w.heap.size 4 _ 91 (0, 0) HX.out).trans rfl) s
  have k5 := fun s : Since W => Since.cell ((cell_of_row W w.heap.size 5 _ 91 (0, 0) HX.out).trans rfl) s
  refine wp_region_since (by kernel_rfl) (by kernel_rfl) ?_
  repeat (go_big_quiet_step (first | (go_at_call 82; exact Calls.since_same (hb _))))
  refine wpQuiet_nil ?_
  rintro _ ⟨s, rfl⟩
  have HB1 : Hid (Below w.heap.size w s.w) := HB.out.trans (s.bel.mono HB.out.size)
  have HX1 : Hid (s.w.heap[w.heap.size]? = some (.cells #[.int .i64 40, .int .i64 70, .int .i64 8, .int .i64 0, .int .i64 3, .func (.func 58) #[] #[]] 91 (0, 0))) := (s.bel.block _ (Array.getElem?_eq_some_iff.1 HX.out).1).trans HX.out
  generalize s.w = W1 at *
  clear hsome k0 k1 k2 k3 k4 k5 HB HX
  by_cases hP : 70 ≤ P
  · have R := HP.out _ _ (Hno.out (by omega)) HB1.out
    have hP' : decide (70 ≤ P) = true := decide_eq_true hP
    clear HP Hno Hyes HB1 HX1
    go_wp2
    exact bodyPost_ret (results_tmp4 (t := 8) (u := 9) (v := 10) (x := 11) rfl _ _ _) rfl R
  have hP' : decide (70 ≤ P) = false := decide_eq_false hP
  have HE := Hyes.out (by omega)
  clear Hno Hyes
  go_wp2_with fail
  have hsome := since_some W1
  have k0 := fun s : Since W1 => Since.cell ((cell_of_row W1 w.heap.size 0 _ 91 (0, 0) HX1.out).trans rfl) s
  have k1 := fun s : Since W1 => Since.cell ((cell_of_row W1 w.heap.size 1 _ 91 (0, 0) HX1.out).trans rfl) s
  have k2 := fun s : Since W1 => Since.cell ((cell_of_row W1 w.heap.size 2 _ 91 (0, 0) HX1.out).trans rfl) s
  have k3 := fun s : Since W1 => Since.cell ((cell_of_row W1 w.heap.size 3 _ 91 (0, 0) HX1.out).trans rfl) s
  have k4 := fun s : Since W1 => Since.cell ((cell_of_row W1 w.heap.size 4 _ 91 (0, 0) HX1.out).trans rfl) s
  have k5 := fun s : Since W1 => Since.cell ((cell_of_row W1 w.heap.size 5 _ 91 (0, 0) HX1.out).trans rfl) s
  refine wp_region_since (by kernel_rfl) (by kernel_rfl) ?_
  repeat (go_big_quiet_step (first | (go_at_call 72; exact Calls.since (b1 _))))
  refine wpQuiet_nil ?_
  rintro _ ⟨s, rfl⟩
  have HB2 : Hid (Below w.heap.size w s.w) := HB1.out.trans (s.bel.mono HB1.out.size)
  have HX2 : Hid (s.w.heap[w.heap.size]? = some (.cells #[.int .i64 40, .int .i64 70, .int .i64 8, .int .i64 0, .int .i64 3, .func (.func 58) #[] #[]] 91 (0, 0))) := (s.bel.block _ (Array.getElem?_eq_some_iff.1 HX1.out).1).trans HX1.out
  generalize s.w = W2 at *
  clear hsome k0 k1 k2 k3 k4 k5 HB1 HX1
  go_wp2_with fail
  have hsome := since_some W2
  have k0 := fun s : Since W2 => Since.cell ((cell_of_row W2 w.heap.size 0 _ 91 (0, 0) HX2.out).trans rfl) s
  have k1 := fun s : Since W2 => Since.cell ((cell_of_row W2 w.heap.size 1 _ 91 (0, 0) HX2.out).trans rfl) s
  have k2 := fun s : Since W2 => Since.cell ((cell_of_row W2 w.heap.size 2 _ 91 (0, 0) HX2.out).trans rfl) s
  have k3 := fun s : Since W2 => Since.cell ((cell_of_row W2 w.heap.size 3 _ 91 (0, 0) HX2.out).trans rfl) s
  have k4 := fun s : Since W2 => Since.cell ((cell_of_row W2 w.heap.size 4 _ 91 (0, 0) HX2.out).trans rfl) s
  have k5 := fun s : Since W2 => Since.cell ((cell_of_row W2 w.heap.size 5 _ 91 (0, 0) HX2.out).trans rfl) s
  refine wp_region_since (by kernel_rfl) (by kernel_rfl) ?_
  repeat (go_big_quiet_step (first | (go_at_call 72; exact Calls.since (b2 _))))
  refine wpQuiet_nil ?_
  rintro _ ⟨s, rfl⟩
  have HB3 : Hid (Below w.heap.size w s.w) := HB2.out.trans (s.bel.mono HB2.out.size)
  have HX3 : Hid (s.w.heap[w.heap.size]? = some (.cells #[.int .i64 40, .int .i64 70, .int .i64 8, .int .i64 0, .int .i64 3, .func (.func 58) #[] #[]] 91 (0, 0))) := (s.bel.block _ (Array.getElem?_eq_some_iff.1 HX2.out).1).trans HX2.out
  generalize s.w = W3 at *
  clear hsome k0 k1 k2 k3 k4 k5 HB2 HX2
  have R := HP.out _ _ HE HB3.out
  clear HP HB3 HX3 HE
  go_wp2
  exact bodyPost_ret (results_tmp4 (t := 8) (u := 9) (v := 10) (x := 11) rfl _ _ _) rfl R
theorem column_c (S s : Nat) (ox oz : Int) (w : World) (hs : s < 3) (hS : S < 18446744073709551616) (hx : Far 1099511627776 ox) (hz : Far 1099511627776 oz) :
    Calls Try.prog 75 #[.agg (scA s), .int .u64 S, .int .i64 ox, .int .i64 oz] w fun e w' => e = colSay s (hT S s ox oz) ox oz ∧ Below w.heap.size w w' := by
  have h3 : s = 0 ∨ s = 1 ∨ s = 2 := by omega
  rcases h3 with rfl | rfl | rfl
  · exact column_0 S ox oz w hS hx hz
  · exact column_1 S ox oz w hS hx hz
  · exact column_2 S ox oz w hS hx hz
end Go.Proofs.Ytbdjgaagafnfaaa