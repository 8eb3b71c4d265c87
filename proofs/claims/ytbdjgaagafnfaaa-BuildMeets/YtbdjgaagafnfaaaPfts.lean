/-
  The landed build: the features of all sorts, gone over one by one.
-/
import Derived.Test.YtbdjgaagafnfaaaPsts
import Derived.Test.YtbdjgaagafnfaaaPsrt
import Derived.LoopNIn
set_option maxRecDepth 20000
namespace Go.Proofs.Ytbdjgaagafnfaaa
open C G Go.RowKit Go.Shelf

attribute [local go_sem] run_store_func Oper.semAt_some
def allF (S : Nat) (cx cz : Int) (hs bs : List (List Int)) : List Feat := (sortF S cx cz hs bs 0 ++ sortF S cx cz hs bs 1) ++ sortF S cx cz hs bs 2
section
variable (p : Nat → Prop) (ws : World) (S : Nat) (cx cz : Int) (a a' : Option Addr) (c c' : Nat) (hs bs : List (List Int))
set_option maxRecDepth 100000 in
set_option maxHeartbeats 4000000 in
theorem features_gives (w : World) (bl bd : Nat) (hS : S < 18446744073709551616) (hcx : Far 1073741825 cx) (hcz : Far 1073741825 cz) (hp : ∀ k, p k → ws.heap.size ≤ k) (hpw : ∀ k, p k → k < w.heap.size) (hws : Below ws.heap.size ws w) (hH : Rows2 ws a hs) (hB : Rows2 ws a' bs) (oH : okG 128 hs) (oB : okG 4 bs)
    (hl : w.heap[bl]? = some (.cells (landA (cx * 16) (cz * 16) a a' c c') 65 (0, 0))) (pl : ¬ p bl) (hd : w.heap[bd]? = some (.cells #[.int .u64 (S : Int)] 29 (0, 0))) (pd : ¬ p bd) :
    Gives2 p 8 5 Try.prog 41 #[] #[.pointer (some ⟨bl, 0, none⟩), .pointer (some ⟨bd, 0, none⟩)] (fun x : OF => #[x.f.val]) (fun xs => xs.map OF.f = allF S cx cz hs bs) w := by
  intro l J W hwW hJ hY hJ0
  obtain ⟨Post, hPost⟩ : ∃ Post : Ending → World → Prop, Post = fun e W' => (∃ v, e = .returned v) ∧ ∃ xs : List OF, xs.map OF.f = allF S cx cz hs bs ∧ J xs W' := ⟨_, rfl⟩
  rw [← hPost]
  have HP : Hid (∀ v (xs : List OF) W', xs.map OF.f = allF S cx cz hs bs → J xs W' → Post (.returned v) W') := fun v xs W' h1 h2 => by rw [hPost]; exact ⟨⟨_, rfl⟩, xs, h1, h2⟩
  clear hPost
  have HJ : Hid (OwnFrom W.heap.size J) := hJ
  have HY : Hid (∀ pre (x : OF) W1, J pre W1 → YieldAt Fence.wide 5 Try.prog l #[x.f.val] W1 fun e W' => e = .returned (.bool true) ∧ J (pre ++ [x]) W' ∧ KA W.heap.size W1 W' ∧ KC p W1 W') := hY
  clear hJ hY
  have HG : Hid (∀ (s : Nat) (Wb : World) (g : Nat), s < 3 → KC p w Wb → w.heap.size ≤ g → Wb.heap[g]? = some (.cells (landA (cx * 16) (cz * 16) a a' c c') 65 (0, 0)) → Wb.heap[g + 1]? = some (.cells #[.int .u64 (S : Int)] 29 (0, 0)) → Wb.heap[g + 1 + 1]? = some (.cells (scA s) 91 (0, 0)) →
      Gives2 p 7 6 Try.prog 59 #[] #[.pointer (some ⟨g, 0, none⟩), .pointer (some ⟨g + 1 + 1, 0, none⟩), .pointer (some ⟨g + 1, 0, none⟩)] (fun x : OF => #[x.f.val]) (fun xs => xs.map OF.f = sortF S cx cz hs bs s) Wb) := fun s Wb g h3 hk hg k0 k1 k2 =>
    sort_gives p ws S s cx cz a a' c c' hs bs w Wb g (g + 1 + 1) (g + 1) h3 hS hcx hcz hp hws hk hH hB oH oB k0 (fun h => by have := hpw _ h; omega) k2 (fun h => by have := hpw _ h; omega) k1 (fun h => by have := hpw _ h; omega)
  have HW : Hid (∀ W1, KC p w W1 → W1.heap[bl]? = some (.cells (landA (cx * 16) (cz * 16) a a' c c') 65 (0, 0)) ∧ W1.heap[bd]? = some (.cells #[.int .u64 (S : Int)] 29 (0, 0))) := fun W1 hk =>
    ⟨hk.same _ _ _ _ pl hl, hk.same _ _ _ _ pd hd⟩
  have HkW : Hid (KC p w W ∧ w.heap.size ≤ W.heap.size) := ⟨KC.below hwW, hwW.size⟩
  clear hl hd hwW hS hcx hcz hp hws hH hB oH oB pl pd hpw
  unfold allF at HP
  generalize sortF S cx cz hs bs = SF at *
  generalize cx * 16 = X at *
  generalize cz * 16 = Z at *
  have hso := sorts_c
  refine callsIn_of_wp_marks Try.func41 rfl trivial ?_ rfl
  simp only [Try.ntmps41, List.size_toArray, List.length_cons, List.length_nil, Nat.reduceAdd, Nat.reduceSub, Array.replicate_succ, Array.replicate_zero, List.push_toArray, List.append_toArray, List.nil_append, List.cons_append]
  gi_wp2_with (fail)
  refine ⟨trivial, (callsIn_wide.2 (hso _)).mono ?_⟩
  clear hso
  rintro _ V0 ⟨rfl, hb⟩
  have hb0 : Below W.heap.size W (W.alloc (.cells #[.func (.yield l) #[] #[]] 88)) := (Below.refl _ W).alloc (Nat.le_refl _) _
  have hbV : Below W.heap.size W V0 := hb0.trans (hb.mono hb0.size)
  have HV0 : Hid (([] : List OF).map OF.f = [] ∧ J [] V0 ∧ KC p w V0 ∧ V0.heap[W.heap.size]? = some (.cells #[.func (.yield l) #[] #[]] 88 (0, 0))) :=
    ⟨rfl, HJ.out _ W V0 none hJ0 (below_grow hbV) (fun r h => by cases h), HkW.out.1.trans (KC.below hbV), (hb.block _ (by simp)).trans (heap_alloc_new W _)⟩
  have HsV0 : Hid (W.heap.size < V0.heap.size) := (Array.getElem?_eq_some_iff.1 HV0.out.2.2.2).1
  obtain ⟨pre0, hpre0⟩ : ∃ pre0 : List OF, pre0 = [] := ⟨_, rfl⟩
  rw [← hpre0] at HV0
  clear hb hb0 hbV hJ0 hpre0
  gi_wp2
  refine wpIn_loop_rounds 4 ?_
  rw [roundsIn_succ]
  have b0 := HW.out V0 HV0.out.2.2.1
  have y0 : V0.cell? ⟨bl, 0, none⟩ = some (.int .i64 X) := (cell_of_row V0 _ 0 _ 65 (0, 0) b0.1).trans rfl
  have y1 : V0.cell? ⟨bl, 1, none⟩ = some (.int .i64 0) := (cell_of_row V0 _ 1 _ 65 (0, 0) b0.1).trans rfl
  have y2 : V0.cell? ⟨bl, 2, none⟩ = some (.int .i64 Z) := (cell_of_row V0 _ 2 _ 65 (0, 0) b0.1).trans rfl
  have y3 : V0.cell? ⟨bl, 3, none⟩ = some (.slice a 9 c) := (cell_of_row V0 _ 3 _ 65 (0, 0) b0.1).trans rfl
  have y4 : V0.cell? ⟨bl, 4, none⟩ = some (.slice a' 9 c') := (cell_of_row V0 _ 4 _ 65 (0, 0) b0.1).trans rfl
  have y5 : V0.cell? ⟨bd, 0, none⟩ = some (.int .u64 (S : Int)) := (cell_of_row V0 _ 0 _ 29 (0, 0) b0.2).trans rfl
  have n1 : bl < V0.heap.size := (Array.getElem?_eq_some_iff.1 b0.1).1
  have n2 : bd < V0.heap.size := (Array.getElem?_eq_some_iff.1 b0.2).1
  clear b0
  have ix : ∀ w, (Instr.index 92 (.agg #[.int .i64 41, .int .i64 35, .int .i64 32, .int .i64 8, .int .i64 4, .func (.func 56) #[] #[], .int .i64 42, .int .i64 20, .int .i64 16, .int .i64 0, .int .i64 4, .func (.func 57) #[] #[], .int .i64 40, .int .i64 70, .int .i64 8, .int .i64 0, .int .i64 3, .func (.func 58) #[] #[]]) (.int .i64 0)).run Try.prog w = .ok (.agg #[.int .i64 41, .int .i64 35, .int .i64 32, .int .i64 8, .int .i64 4, .func (.func 56) #[] #[]]) w := fun _ => by kernel_rfl
  have hsc := fun w => sort_c X Z a a' c c' S (.int .i64 41) (.int .i64 35) (.int .i64 32) (.int .i64 8) (.int .i64 4) (.func (.func 56) #[] #[]) w
  gi_wp2_with (fail)
  refine ⟨trivial, (callsIn_wide.2 (hsc _)).mono ?_⟩
  clear hsc y0 y1 y2 y3 y4 y5 n1 n2 ix
  rintro _ U0 ⟨g0, rfl, hg, hbU, k0, k1, k2⟩
  have hbA : Below V0.heap.size V0 (V0.alloc (.cells #[.int .i64 41, .int .i64 35, .int .i64 32, .int .i64 8, .int .i64 4, .func (.func 56) #[] #[]] 91)) := (Below.refl _ _).alloc (Nat.le_refl _) _
  have hbB : Below V0.heap.size V0 U0 := hbA.trans (hbU.mono hbA.size)
  have hkU : KC p w U0 := HV0.out.2.2.1.trans (KC.below hbB)
  have hgw : w.heap.size ≤ g0 := by
    have h1 := hbA.size
    have h2 := HkW.out.2
    have h3 := HsV0.out
    omega
  have hgv := HG.out 0 U0 g0 (by omega) hkU hgw k0 k1 k2
  have hjU : J pre0 U0 := HJ.out _ V0 U0 none HV0.out.2.1 (below_grow hbB) (fun r h => by cases h)
  have HU : Hid (pre0.map OF.f = [] ∧ U0.heap[W.heap.size]? = some (.cells #[.func (.yield l) #[] #[]] 88 (0, 0))) := ⟨HV0.out.1, (hbB.block _ HsV0.out).trans HV0.out.2.2.2⟩
  have HsU : Hid (W.heap.size ≤ U0.heap.size) := Nat.le_trans (Nat.le_of_lt HsV0.out) hbB.size
  clear hg hbU k0 k1 k2 hbA hbB hgw HV0 HsV0
  gi_wp2_with (fail)
  refine range_gives2 (lb := #[.pointer (some ⟨g0, 0, none⟩), .pointer (some ⟨g0 + 1 + 1, 0, none⟩), .pointer (some ⟨g0 + 1, 0, none⟩)]) (fs := #[]) (gf := 59) rfl (enters_of Try.func59 (by kernel_rfl) rfl) (fun _ => rfl) hgv
    (fun xs W' => J (pre0 ++ xs) W' ∧ KC p w W' ∧ KA W.heap.size U0 W') (OwnFrom.and (fun s A B row hs hg hr => HJ.out _ A B row hs hg (fun q e => ⟨by have := (hr q e).1; have := HsU.out; omega, (hr q e).2⟩)) (OwnFrom.and (kc_own p _ w) (ka_own _ _)))
    ⟨by rw [List.append_nil]; exact hjU, hkU, KA.refl _ _⟩
    (fun x ax _ => ax = { tmps := #[.func (.yield l) #[] #[], Value.pointer (some { block := bl, off := 0 }), Value.pointer (some { block := bd, off := 0 }), Value.pointer (some { block := W.heap.size, off := 0 }), undef, Value.pointer (some { block := V0.heap.size, off := 0 }), x.f.val, .agg #[.int .i64 41, .int .i64 35, .int .i64 32, .int .i64 8, .int .i64 4, .func (.func 56) #[] #[], .int .i64 42, .int .i64 20, .int .i64 16, .int .i64 0, .int .i64 4, .func (.func 57) #[] #[], .int .i64 40, .int .i64 70, .int .i64 8, .int .i64 0, .int .i64 3, .func (.func 58) #[] #[]], .int .i64 0, .bool true, .agg #[.int .i64 41, .int .i64 35, .int .i64 32, .int .i64 8, .int .i64 4, .func (.func 56) #[] #[]], .agg #[.int .i64 X, .int .i64 0, .int .i64 Z, .slice a 9 c, .slice a' 9 c'], .int .u64 (S : Int), .agg #[.int .i64 41, .int .i64 35, .int .i64 32, .int .i64 8, .int .i64 4, .func (.func 56) #[] #[]], .func (.func 59) #[] #[.pointer (some ⟨g0, 0, none⟩), .pointer (some ⟨g0 + 1 + 1, 0, none⟩), .pointer (some ⟨g0 + 1, 0, none⟩)], x.f.val, undef, undef, undef, undef, undef], defers := [] }) (fun _ _ => fun _ _ _ _ h _ _ => h) ?assign0 ?body0 ?done0
  case assign0 =>
    intro l' pre x W1 K hi hK
    have HK : Hid _ := hK
    have HI : Hid _ := hi
    clear hK hi
    gi_wp2
    exact HK.out _ _ (KA.refl _ _) (KC.refl _ _) HI.out rfl
  case body0 =>
    rintro l' pre x a1 W1 ⟨hj, hkc, hka⟩ rfl
    have y : W1.cell? ⟨W.heap.size, 0, none⟩ = some (.func (.yield l) #[] #[]) := KA.cell hka (Nat.le_refl _) ((cell_of_row U0 _ 0 _ 88 (0, 0) HU.out.2).trans rfl)
    obtain ⟨fn, tmps, assign, body, hy, hR⟩ := HY.out (pre0 ++ pre) x W1 hj
    have HQ : Hid (KC p w W1 ∧ KA W.heap.size U0 W1) := ⟨hkc, hka⟩
    clear hj hkc hka hgv hjU hkU
    gi_wp2
    refine RoundIn.mono (F := Fence.wide) hR ?_
    clear hy hR
    rintro _ w3 ⟨rfl, hj3, hka3, hkc3⟩
    have HE : Hid (KA U0.heap.size W1 w3 ∧ KC p W1 w3 ∧ J (pre0 ++ (pre ++ [x])) w3 ∧ KC p w w3 ∧ KA W.heap.size U0 w3) :=
      ⟨hka3.mono HsU.out, hkc3, by rw [← List.append_assoc]; exact hj3, HQ.out.1.trans hkc3, HQ.out.2.trans hka3⟩
    clear hj3 hka3 hkc3 HQ y
    gi_wp2
    exact HE.out
  case done0 =>
  intro D0 xs0 V1 hD hSx hI hK
  obtain ⟨pre1, hpre1⟩ : ∃ q, q = pre0 ++ xs0 := ⟨_, rfl⟩
  rw [← hpre1] at hI
  have HV1 : Hid (pre1.map OF.f = SF 0 ∧ J pre1 V1 ∧ KC p w V1 ∧ V1.heap[W.heap.size]? = some (.cells #[.func (.yield l) #[] #[]] 88 (0, 0)) ∧ V1.heap[D0]? = some (.deferred (some []))) :=
    ⟨by rw [hpre1, List.map_append, HU.out.1, hSx]; rfl, hI.1, hI.2.1, hI.2.2.same _ _ (Nat.le_refl _) HU.out.2, hK⟩
  have HsV1 : Hid (W.heap.size < V1.heap.size) := (Array.getElem?_eq_some_iff.1 (hI.2.2.same _ _ (Nat.le_refl _) HU.out.2)).1
  have HD0 : Hid (W.heap.size ≤ D0 ∧ True) := ⟨Nat.le_trans HsU.out hD, trivial⟩
  clear hD hSx hI hK hpre1 HU HsU hgv hjU hkU
  gi_wp2
  rw [roundsIn_succ]
  have b1 := HW.out V1 HV1.out.2.2.1
  have y0 : V1.cell? ⟨bl, 0, none⟩ = some (.int .i64 X) := (cell_of_row V1 _ 0 _ 65 (0, 0) b1.1).trans rfl
  have y1 : V1.cell? ⟨bl, 1, none⟩ = some (.int .i64 0) := (cell_of_row V1 _ 1 _ 65 (0, 0) b1.1).trans rfl
  have y2 : V1.cell? ⟨bl, 2, none⟩ = some (.int .i64 Z) := (cell_of_row V1 _ 2 _ 65 (0, 0) b1.1).trans rfl
  have y3 : V1.cell? ⟨bl, 3, none⟩ = some (.slice a 9 c) := (cell_of_row V1 _ 3 _ 65 (0, 0) b1.1).trans rfl
  have y4 : V1.cell? ⟨bl, 4, none⟩ = some (.slice a' 9 c') := (cell_of_row V1 _ 4 _ 65 (0, 0) b1.1).trans rfl
  have y5 : V1.cell? ⟨bd, 0, none⟩ = some (.int .u64 (S : Int)) := (cell_of_row V1 _ 0 _ 29 (0, 0) b1.2).trans rfl
  have n1 : bl < V1.heap.size := (Array.getElem?_eq_some_iff.1 b1.1).1
  have n2 : bd < V1.heap.size := (Array.getElem?_eq_some_iff.1 b1.2).1
  clear b1
  have ix : ∀ w, (Instr.index 92 (.agg #[.int .i64 41, .int .i64 35, .int .i64 32, .int .i64 8, .int .i64 4, .func (.func 56) #[] #[], .int .i64 42, .int .i64 20, .int .i64 16, .int .i64 0, .int .i64 4, .func (.func 57) #[] #[], .int .i64 40, .int .i64 70, .int .i64 8, .int .i64 0, .int .i64 3, .func (.func 58) #[] #[]]) (.int .i64 1)).run Try.prog w = .ok (.agg #[.int .i64 42, .int .i64 20, .int .i64 16, .int .i64 0, .int .i64 4, .func (.func 57) #[] #[]]) w := fun _ => by kernel_rfl
  have hsc := fun w => sort_c X Z a a' c c' S (.int .i64 42) (.int .i64 20) (.int .i64 16) (.int .i64 0) (.int .i64 4) (.func (.func 57) #[] #[]) w
  gi_wp2_with (fail)
  refine ⟨trivial, (callsIn_wide.2 (hsc _)).mono ?_⟩
  clear hsc y0 y1 y2 y3 y4 y5 n1 n2 ix
  rintro _ U1 ⟨g1, rfl, hg, hbU, k0, k1, k2⟩
  have hbA : Below V1.heap.size V1 (V1.alloc (.cells #[.int .i64 42, .int .i64 20, .int .i64 16, .int .i64 0, .int .i64 4, .func (.func 57) #[] #[]] 91)) := (Below.refl _ _).alloc (Nat.le_refl _) _
  have hbB : Below V1.heap.size V1 U1 := hbA.trans (hbU.mono hbA.size)
  have hkU : KC p w U1 := HV1.out.2.2.1.trans (KC.below hbB)
  have hgw : w.heap.size ≤ g1 := by
    have h1 := hbA.size
    have h2 := HkW.out.2
    have h3 := HsV1.out
    omega
  have hgv := HG.out 1 U1 g1 (by omega) hkU hgw k0 k1 k2
  have hjU : J pre1 U1 := HJ.out _ V1 U1 none HV1.out.2.1 (below_grow hbB) (fun r h => by cases h)
  have HU : Hid (pre1.map OF.f = SF 0 ∧ U1.heap[W.heap.size]? = some (.cells #[.func (.yield l) #[] #[]] 88 (0, 0)) ∧ U1.heap[D0]? = some (.deferred (some []))) := ⟨HV1.out.1, (hbB.block _ HsV1.out).trans HV1.out.2.2.2.1, (hbB.block _ (Array.getElem?_eq_some_iff.1 (HV1.out.2.2.2.2)).1).trans (HV1.out.2.2.2.2)⟩
  have HsU : Hid (W.heap.size ≤ U1.heap.size) := Nat.le_trans (Nat.le_of_lt HsV1.out) hbB.size
  clear hg hbU k0 k1 k2 hbA hbB hgw HV1 HsV1
  gi_wp2_with (fail)
  refine range_gives2 (lb := #[.pointer (some ⟨g1, 0, none⟩), .pointer (some ⟨g1 + 1 + 1, 0, none⟩), .pointer (some ⟨g1 + 1, 0, none⟩)]) (fs := #[]) (gf := 59) rfl (enters_of Try.func59 (by kernel_rfl) rfl) (fun _ => rfl) hgv
    (fun xs W' => J (pre1 ++ xs) W' ∧ KC p w W' ∧ KA W.heap.size U1 W') (OwnFrom.and (fun s A B row hs hg hr => HJ.out _ A B row hs hg (fun q e => ⟨by have := (hr q e).1; have := HsU.out; omega, (hr q e).2⟩)) (OwnFrom.and (kc_own p _ w) (ka_own _ _)))
    ⟨by rw [List.append_nil]; exact hjU, hkU, KA.refl _ _⟩
    (fun x ax _ => ax = { tmps := #[.func (.yield l) #[] #[], Value.pointer (some { block := bl, off := 0 }), Value.pointer (some { block := bd, off := 0 }), Value.pointer (some { block := W.heap.size, off := 0 }), undef, Value.pointer (some { block := V1.heap.size, off := 0 }), x.f.val, .agg #[.int .i64 41, .int .i64 35, .int .i64 32, .int .i64 8, .int .i64 4, .func (.func 56) #[] #[], .int .i64 42, .int .i64 20, .int .i64 16, .int .i64 0, .int .i64 4, .func (.func 57) #[] #[], .int .i64 40, .int .i64 70, .int .i64 8, .int .i64 0, .int .i64 3, .func (.func 58) #[] #[]], .int .i64 1, .bool true, .agg #[.int .i64 42, .int .i64 20, .int .i64 16, .int .i64 0, .int .i64 4, .func (.func 57) #[] #[]], .agg #[.int .i64 X, .int .i64 0, .int .i64 Z, .slice a 9 c, .slice a' 9 c'], .int .u64 (S : Int), .agg #[.int .i64 42, .int .i64 20, .int .i64 16, .int .i64 0, .int .i64 4, .func (.func 57) #[] #[]], .func (.func 59) #[] #[.pointer (some ⟨g1, 0, none⟩), .pointer (some ⟨g1 + 1 + 1, 0, none⟩), .pointer (some ⟨g1 + 1, 0, none⟩)], x.f.val, undef, undef, undef, undef, .int .i64 1], defers := [] }) (fun _ _ => fun _ _ _ _ h _ _ => h) ?assign1 ?body1 ?done1
  case assign1 =>
    intro l' pre x W1 K hi hK
    have HK : Hid _ := hK
    have HI : Hid _ := hi
    clear hK hi
    gi_wp2
    exact HK.out _ _ (KA.refl _ _) (KC.refl _ _) HI.out rfl
  case body1 =>
    rintro l' pre x a1 W1 ⟨hj, hkc, hka⟩ rfl
    have y : W1.cell? ⟨W.heap.size, 0, none⟩ = some (.func (.yield l) #[] #[]) := KA.cell hka (Nat.le_refl _) ((cell_of_row U1 _ 0 _ 88 (0, 0) HU.out.2.1).trans rfl)
    obtain ⟨fn, tmps, assign, body, hy, hR⟩ := HY.out (pre1 ++ pre) x W1 hj
    have HQ : Hid (KC p w W1 ∧ KA W.heap.size U1 W1) := ⟨hkc, hka⟩
    clear hj hkc hka hgv hjU hkU
    gi_wp2
    refine RoundIn.mono (F := Fence.wide) hR ?_
    clear hy hR
    rintro _ w3 ⟨rfl, hj3, hka3, hkc3⟩
    have HE : Hid (KA U1.heap.size W1 w3 ∧ KC p W1 w3 ∧ J (pre1 ++ (pre ++ [x])) w3 ∧ KC p w w3 ∧ KA W.heap.size U1 w3) :=
      ⟨hka3.mono HsU.out, hkc3, by rw [← List.append_assoc]; exact hj3, HQ.out.1.trans hkc3, HQ.out.2.trans hka3⟩
    clear hj3 hka3 hkc3 HQ y
    gi_wp2
    exact HE.out
  case done1 =>
  intro D1 xs1 V2 hD hSx hI hK
  obtain ⟨pre2, hpre2⟩ : ∃ q, q = pre1 ++ xs1 := ⟨_, rfl⟩
  rw [← hpre2] at hI
  have HV2 : Hid (pre2.map OF.f = (SF 0 ++ SF 1) ∧ J pre2 V2 ∧ KC p w V2 ∧ V2.heap[W.heap.size]? = some (.cells #[.func (.yield l) #[] #[]] 88 (0, 0)) ∧ V2.heap[D0]? = some (.deferred (some [])) ∧ V2.heap[D1]? = some (.deferred (some []))) :=
    ⟨by rw [hpre2, List.map_append, HU.out.1, hSx], hI.1, hI.2.1, hI.2.2.same _ _ (Nat.le_refl _) HU.out.2.1, hI.2.2.same _ _ HD0.out.1 (HU.out.2.2), hK⟩
  have HsV2 : Hid (W.heap.size < V2.heap.size) := (Array.getElem?_eq_some_iff.1 (hI.2.2.same _ _ (Nat.le_refl _) HU.out.2.1)).1
  have HD1 : Hid (W.heap.size ≤ D1 ∧ True ∧ D1 ≠ D0) := ⟨Nat.le_trans HsU.out hD, trivial, (fun e => by have := (Array.getElem?_eq_some_iff.1 (HU.out.2.2)).1; omega)⟩
  clear hD hSx hI hK hpre2 HU HsU hgv hjU hkU
  gi_wp2
  rw [roundsIn_succ]
  have b2 := HW.out V2 HV2.out.2.2.1
  have y0 : V2.cell? ⟨bl, 0, none⟩ = some (.int .i64 X) := (cell_of_row V2 _ 0 _ 65 (0, 0) b2.1).trans rfl
  have y1 : V2.cell? ⟨bl, 1, none⟩ = some (.int .i64 0) := (cell_of_row V2 _ 1 _ 65 (0, 0) b2.1).trans rfl
  have y2 : V2.cell? ⟨bl, 2, none⟩ = some (.int .i64 Z) := (cell_of_row V2 _ 2 _ 65 (0, 0) b2.1).trans rfl
  have y3 : V2.cell? ⟨bl, 3, none⟩ = some (.slice a 9 c) := (cell_of_row V2 _ 3 _ 65 (0, 0) b2.1).trans rfl
  have y4 : V2.cell? ⟨bl, 4, none⟩ = some (.slice a' 9 c') := (cell_of_row V2 _ 4 _ 65 (0, 0) b2.1).trans rfl
  have y5 : V2.cell? ⟨bd, 0, none⟩ = some (.int .u64 (S : Int)) := (cell_of_row V2 _ 0 _ 29 (0, 0) b2.2).trans rfl
  have n1 : bl < V2.heap.size := (Array.getElem?_eq_some_iff.1 b2.1).1
  have n2 : bd < V2.heap.size := (Array.getElem?_eq_some_iff.1 b2.2).1
  clear b2
  have ix : ∀ w, (Instr.index 92 (.agg #[.int .i64 41, .int .i64 35, .int .i64 32, .int .i64 8, .int .i64 4, .func (.func 56) #[] #[], .int .i64 42, .int .i64 20, .int .i64 16, .int .i64 0, .int .i64 4, .func (.func 57) #[] #[], .int .i64 40, .int .i64 70, .int .i64 8, .int .i64 0, .int .i64 3, .func (.func 58) #[] #[]]) (.int .i64 2)).run Try.prog w = .ok (.agg #[.int .i64 40, .int .i64 70, .int .i64 8, .int .i64 0, .int .i64 3, .func (.func 58) #[] #[]]) w := fun _ => by kernel_rfl
  have hsc := fun w => sort_c X Z a a' c c' S (.int .i64 40) (.int .i64 70) (.int .i64 8) (.int .i64 0) (.int .i64 3) (.func (.func 58) #[] #[]) w
  gi_wp2_with (fail)
  refine ⟨trivial, (callsIn_wide.2 (hsc _)).mono ?_⟩
  clear hsc y0 y1 y2 y3 y4 y5 n1 n2 ix
  rintro _ U2 ⟨g2, rfl, hg, hbU, k0, k1, k2⟩
  have hbA : Below V2.heap.size V2 (V2.alloc (.cells #[.int .i64 40, .int .i64 70, .int .i64 8, .int .i64 0, .int .i64 3, .func (.func 58) #[] #[]] 91)) := (Below.refl _ _).alloc (Nat.le_refl _) _
  have hbB : Below V2.heap.size V2 U2 := hbA.trans (hbU.mono hbA.size)
  have hkU : KC p w U2 := HV2.out.2.2.1.trans (KC.below hbB)
  have hgw : w.heap.size ≤ g2 := by
    have h1 := hbA.size
    have h2 := HkW.out.2
    have h3 := HsV2.out
    omega
  have hgv := HG.out 2 U2 g2 (by omega) hkU hgw k0 k1 k2
  have hjU : J pre2 U2 := HJ.out _ V2 U2 none HV2.out.2.1 (below_grow hbB) (fun r h => by cases h)
  have HU : Hid (pre2.map OF.f = (SF 0 ++ SF 1) ∧ U2.heap[W.heap.size]? = some (.cells #[.func (.yield l) #[] #[]] 88 (0, 0)) ∧ U2.heap[D0]? = some (.deferred (some [])) ∧ U2.heap[D1]? = some (.deferred (some []))) := ⟨HV2.out.1, (hbB.block _ HsV2.out).trans HV2.out.2.2.2.1, (hbB.block _ (Array.getElem?_eq_some_iff.1 (HV2.out.2.2.2.2.1)).1).trans (HV2.out.2.2.2.2.1), (hbB.block _ (Array.getElem?_eq_some_iff.1 (HV2.out.2.2.2.2.2)).1).trans (HV2.out.2.2.2.2.2)⟩
  have HsU : Hid (W.heap.size ≤ U2.heap.size) := Nat.le_trans (Nat.le_of_lt HsV2.out) hbB.size
  clear hg hbU k0 k1 k2 hbA hbB hgw HV2 HsV2
  gi_wp2_with (fail)
  refine range_gives2 (lb := #[.pointer (some ⟨g2, 0, none⟩), .pointer (some ⟨g2 + 1 + 1, 0, none⟩), .pointer (some ⟨g2 + 1, 0, none⟩)]) (fs := #[]) (gf := 59) rfl (enters_of Try.func59 (by kernel_rfl) rfl) (fun _ => rfl) hgv
    (fun xs W' => J (pre2 ++ xs) W' ∧ KC p w W' ∧ KA W.heap.size U2 W') (OwnFrom.and (fun s A B row hs hg hr => HJ.out _ A B row hs hg (fun q e => ⟨by have := (hr q e).1; have := HsU.out; omega, (hr q e).2⟩)) (OwnFrom.and (kc_own p _ w) (ka_own _ _)))
    ⟨by rw [List.append_nil]; exact hjU, hkU, KA.refl _ _⟩
    (fun x ax _ => ax = { tmps := #[.func (.yield l) #[] #[], Value.pointer (some { block := bl, off := 0 }), Value.pointer (some { block := bd, off := 0 }), Value.pointer (some { block := W.heap.size, off := 0 }), undef, Value.pointer (some { block := V2.heap.size, off := 0 }), x.f.val, .agg #[.int .i64 41, .int .i64 35, .int .i64 32, .int .i64 8, .int .i64 4, .func (.func 56) #[] #[], .int .i64 42, .int .i64 20, .int .i64 16, .int .i64 0, .int .i64 4, .func (.func 57) #[] #[], .int .i64 40, .int .i64 70, .int .i64 8, .int .i64 0, .int .i64 3, .func (.func 58) #[] #[]], .int .i64 2, .bool true, .agg #[.int .i64 40, .int .i64 70, .int .i64 8, .int .i64 0, .int .i64 3, .func (.func 58) #[] #[]], .agg #[.int .i64 X, .int .i64 0, .int .i64 Z, .slice a 9 c, .slice a' 9 c'], .int .u64 (S : Int), .agg #[.int .i64 40, .int .i64 70, .int .i64 8, .int .i64 0, .int .i64 3, .func (.func 58) #[] #[]], .func (.func 59) #[] #[.pointer (some ⟨g2, 0, none⟩), .pointer (some ⟨g2 + 1 + 1, 0, none⟩), .pointer (some ⟨g2 + 1, 0, none⟩)], x.f.val, undef, undef, undef, undef, .int .i64 2], defers := [] }) (fun _ _ => fun _ _ _ _ h _ _ => h) ?assign2 ?body2 ?done2
  case assign2 =>
    intro l' pre x W1 K hi hK
    have HK : Hid _ := hK
    have HI : Hid _ := hi
    clear hK hi
    gi_wp2
    exact HK.out _ _ (KA.refl _ _) (KC.refl _ _) HI.out rfl
  case body2 =>
    rintro l' pre x a1 W1 ⟨hj, hkc, hka⟩ rfl
    have y : W1.cell? ⟨W.heap.size, 0, none⟩ = some (.func (.yield l) #[] #[]) := KA.cell hka (Nat.le_refl _) ((cell_of_row U2 _ 0 _ 88 (0, 0) HU.out.2.1).trans rfl)
    obtain ⟨fn, tmps, assign, body, hy, hR⟩ := HY.out (pre2 ++ pre) x W1 hj
    have HQ : Hid (KC p w W1 ∧ KA W.heap.size U2 W1) := ⟨hkc, hka⟩
    clear hj hkc hka hgv hjU hkU
    gi_wp2
    refine RoundIn.mono (F := Fence.wide) hR ?_
    clear hy hR
    rintro _ w3 ⟨rfl, hj3, hka3, hkc3⟩
    have HE : Hid (KA U2.heap.size W1 w3 ∧ KC p W1 w3 ∧ J (pre2 ++ (pre ++ [x])) w3 ∧ KC p w w3 ∧ KA W.heap.size U2 w3) :=
      ⟨hka3.mono HsU.out, hkc3, by rw [← List.append_assoc]; exact hj3, HQ.out.1.trans hkc3, HQ.out.2.trans hka3⟩
    clear hj3 hka3 hkc3 HQ y
    gi_wp2
    exact HE.out
  case done2 =>
  intro D2 xs2 V3 hD hSx hI hK
  obtain ⟨pre3, hpre3⟩ : ∃ q, q = pre2 ++ xs2 := ⟨_, rfl⟩
  rw [← hpre3] at hI
  have HV3 : Hid (pre3.map OF.f = ((SF 0 ++ SF 1) ++ SF 2) ∧ J pre3 V3 ∧ KC p w V3 ∧ V3.heap[W.heap.size]? = some (.cells #[.func (.yield l) #[] #[]] 88 (0, 0)) ∧ V3.heap[D0]? = some (.deferred (some [])) ∧ V3.heap[D1]? = some (.deferred (some [])) ∧ V3.heap[D2]? = some (.deferred (some []))) :=
    ⟨by rw [hpre3, List.map_append, HU.out.1, hSx], hI.1, hI.2.1, hI.2.2.same _ _ (Nat.le_refl _) HU.out.2.1, hI.2.2.same _ _ HD0.out.1 (HU.out.2.2.1), hI.2.2.same _ _ HD1.out.1 (HU.out.2.2.2), hK⟩
  have HsV3 : Hid (W.heap.size < V3.heap.size) := (Array.getElem?_eq_some_iff.1 (hI.2.2.same _ _ (Nat.le_refl _) HU.out.2.1)).1
  have HD2 : Hid (W.heap.size ≤ D2 ∧ True ∧ D2 ≠ D0 ∧ D2 ≠ D1) := ⟨Nat.le_trans HsU.out hD, trivial, (fun e => by have := (Array.getElem?_eq_some_iff.1 (HU.out.2.2.1)).1; omega), (fun e => by have := (Array.getElem?_eq_some_iff.1 (HU.out.2.2.2)).1; omega)⟩
  clear hD hSx hI hK hpre3 HU HsU hgv hjU hkU
  gi_wp2
  rw [roundsIn_succ]
  have R : ∀ v, Post (.returned v) (((V3.putObj D2 (.deferred none)).putObj D1 (.deferred none)).putObj D0 (.deferred none)) := fun v => HP.out v pre3 _ HV3.out.1
    (HJ.out.putObj _ (HJ.out.putObj _ (HJ.out.putObj _ HV3.out.2.1 HD2.out.1 HV3.out.2.2.2.2.2.2 rfl) HD1.out.1 ((World.putObj_heap_other (Ne.symm HD2.out.2.2.2)).trans HV3.out.2.2.2.2.2.1) rfl) HD0.out.1 ((World.putObj_heap_other (Ne.symm HD1.out.2.2)).trans ((World.putObj_heap_other (Ne.symm HD2.out.2.2.1)).trans HV3.out.2.2.2.2.1)) rfl)
  have e2 := HV3.out.2.2.2.2.2.2
  have e1 : (V3.putObj D2 (.deferred none)).heap[D1]? = some (.deferred (some [])) := (World.putObj_heap_other (Ne.symm HD2.out.2.2.2)).trans HV3.out.2.2.2.2.2.1
  have e0 : ((V3.putObj D2 (.deferred none)).putObj D1 (.deferred none)).heap[D0]? = some (.deferred (some [])) := (World.putObj_heap_other (Ne.symm HD1.out.2.2)).trans ((World.putObj_heap_other (Ne.symm HD2.out.2.2.1)).trans HV3.out.2.2.2.2.1)
  clear HV3 HsV3 HP HY HJ HG HW HkW HD0 HD1 HD2
  gi_wp2
  refine ⟨by simp, .inl ⟨_, _, rfl, run_takeDeferred e2, ?_⟩⟩
  refine ⟨by simp, .inl ⟨_, _, rfl, run_takeDeferred e1, ?_⟩⟩
  refine ⟨by simp, .inl ⟨_, _, rfl, run_takeDeferred e0, ?_⟩⟩
  exact ⟨_, results_none rfl _ _ _, R _⟩
end
end Go.Proofs.Ytbdjgaagafnfaaa
