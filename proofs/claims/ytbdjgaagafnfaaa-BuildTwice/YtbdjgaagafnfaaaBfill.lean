/-
  A site's zero.
  The landed build: Apply.
  What is asked of a build package, of the landed one.
-/
import Derived.Test.YtbdjgaagafnfaaaPrai
import Derived.Test.YtbdjgaagafnfaaaPnin
import Derived.Test.YtbdjgaagafnfaaaPfts
import Derived.Test.YtbdjgaagafnfaaaBspec
import Derived.Sort.CutIn
set_option maxRecDepth 20000
namespace Go.Proofs.Ytbdjgaagafnfaaa
section
open Go.RowKit

/-- A list by halves. -/
def hlv (v : Value) : Nat → Nat → List Value
  | 0, n => List.replicate n v
  | f + 1, n => (hlv v f (n / 2)).append (hlv v f (n - n / 2))
theorem hlv_rep (v : Value) : ∀ f n, hlv v f n = List.replicate n v
  | 0, _ => rfl
  | f + 1, n => by
    show hlv v f (n / 2) ++ hlv v f (n - n / 2) = _
    rw [hlv_rep v f, hlv_rep v f, List.replicate_append_replicate]
    congr 1
    omega
def hlp (u v : Value) : Nat → Nat → List Value
  | 0, n => u :: List.replicate (n - 1) v
  | f + 1, n => (hlp u v f (n / 2)).append (hlv v f (n - n / 2))
theorem hlp_rep (u v : Value) : ∀ f n, 2 ^ f ≤ n → hlp u v f n = u :: List.replicate (n - 1) v
  | 0, _, _ => rfl
  | f + 1, n, h => by
    have h2 : 2 ^ f ≤ n / 2 := by rw [Nat.pow_succ] at h; omega
    have h1 : 1 ≤ 2 ^ f := Nat.one_le_two_pow
    show hlp u v f (n / 2) ++ hlv v f (n - n / 2) = _
    rw [hlp_rep u v f _ h2, hlv_rep, List.cons_append, List.replicate_append_replicate]
    congr 2
    omega
theorem z62 : Try.t62.zero = some (.agg (hlp (.pointer none) (.bool false) 9 32769).toArray) := by kernel_rfl
def sitZ : Array Value := (Value.pointer none :: List.replicate 32768 (Value.bool false)).toArray
theorem zero62 (w : World) : (zeroValue 62).run Try.prog w = .ok (.agg sitZ) w := by
  have e : (hlp (.pointer none) (.bool false) 9 32769).toArray = sitZ := by rw [hlp_rep _ _ 9 32769 (by decide)]; rfl
  unfold zeroValue
  rw [Sem.run_bind, Try.typeInfo62, Result.andThen_ok, z62, e]
  rfl
theorem sitZ_size : sitZ.size = 32769 := by unfold sitZ; rw [List.size_toArray, List.length_cons, List.length_replicate]
theorem sitA_size (gC : Nat) : (sitA gC (List.replicate 32768 false)).size = 32769 := by unfold sitA; rw [List.size_toArray, List.length_cons, List.length_map, List.length_replicate]
theorem sitZ_set (gC : Nat) : sitZ.setIfInBounds 0 (.pointer (some ⟨gC, 0, none⟩)) = sitA gC (List.replicate 32768 false) := by
  unfold sitZ sitA
  rw [List.setIfInBounds_toArray, List.set_cons_zero, List.map_replicate]
theorem sitA_one (gC : Nat) : (sitA gC (List.replicate 32768 false)).all (·.oneCell') = true := by
  unfold sitA
  exact all_oneCell_toArray fun v hv => by
    rcases List.mem_cons.1 hv with rfl | hv
    · rfl
    · obtain ⟨x, _, rfl⟩ := List.mem_map.1 hv; rfl
theorem size62 : (Try.prog.info? 62).map (·.size) = some 32769 := by kernel_rfl
end
section
open C G Go.RowKit Go.Shelf

attribute [local go_sem] Oper.semAt_some
theorem features_c (X Z : Int) (a a' : Option Addr) (c c' S : Nat) (w : World) : Calls Try.prog 25 #[.agg (landA X Z a a' c c'), .int .u64 S] w fun e w' =>
    ∃ g, e = .returned (.func (.func 41) #[] #[.pointer (some ⟨g, 0, none⟩), .pointer (some ⟨g + 1, 0, none⟩)]) ∧ w.heap.size ≤ g ∧ Below w.heap.size w w' ∧ w'.heap[g]? = some (.cells (landA X Z a a' c c') 65 (0, 0)) ∧ w'.heap[g + 1]? = some (.cells #[.int .u64 (S : Int)] 29 (0, 0)) := by
  obtain ⟨W, hW⟩ : ∃ W, W = (w.alloc (.cells (landA X Z a a' c c') 65)).alloc (.cells #[.int .u64 (S : Int)] 29) := ⟨_, rfl⟩
  obtain ⟨hbel, k0, k1⟩ := two_al hW
  go_enter Try.func25, Try.ntmps25
  go_wp2
  go_ret
  rw [← hW]
  exact ⟨w.heap.size, rfl, Nat.le_refl _, hbel, k0, k1⟩
theorem app_own (cs : List Int) (gC gS : Nat) (A : World) : OwnFrom A.heap.size (fun (xs : List OF) W => Blk W gC 74 (stC cs (xs.map fun x : OF => x.f.th)) ∧ Sit W gS gC (stB cs (xs.map fun x : OF => x.f.th)) ∧ Two2 gC gS A W) := fun _ W W' row h hg hr =>
  ⟨cells_kept hg hr h.1, cells_kept hg hr h.2.1, two2_own (β := Unit) gC gS A () W W' row h.2.2 hg hr⟩
theorem ptr_ne (w : World) (g : Nat) : (binOp .eql 25 (.pointer (some ⟨g, 0, none⟩)) (.pointer none)).run Try.prog w = .ok (.bool false) w := by kernel_rfl
set_option maxRecDepth 100000 in
set_option maxHeartbeats 4000000 in
theorem apply_c (S : Nat) (cx cz : Int) (g : Nat) (cs : List Int) (a a' : Option Addr) (c c' : Nat) (hs bs : List (List Int)) (w : World) (hS : S < 18446744073709551616) (hcx : Far 1073741825 cx) (hcz : Far 1073741825 cz) (hB : Blk w g 74 cs) (hl : cs.length = 32768) (hk : Kinds cs) (hH : Rows2 w a hs) (hR : Rows2 w a' bs) (oH : okG 128 hs) (oB : okG 4 bs) :
    Calls Try.prog 8 #[.int .u64 S, .agg #[.int .i64 cx, .int .i64 cz], .pointer (some ⟨g, 0, none⟩), .slice a 9 c, .slice a' 9 c'] w fun e w' => Below w.heap.size w w' ∧ ∃ g', e = .returned (.tuple #[.pointer (some ⟨g', 0, none⟩), .int .i64 0]) ∧ Blk w' g' 74 (stC cs ((allF S cx cz hs bs).map Feat.th)) := by
  obtain ⟨Post, hPost⟩ : ∃ Post : Ending → World → Prop, Post = fun e w' => Below w.heap.size w w' ∧ ∃ g', e = .returned (.tuple #[.pointer (some ⟨g', 0, none⟩), .int .i64 0]) ∧ Blk w' g' 74 (stC cs ((allF S cx cz hs bs).map Feat.th)) := ⟨_, rfl⟩
  rw [← hPost]
  have HP : Hid (∀ g' w', Below w.heap.size w w' → Blk w' g' 74 (stC cs ((allF S cx cz hs bs).map Feat.th)) → Post (.returned (.tuple #[.pointer (some ⟨g', 0, none⟩), .int .i64 0])) w') := fun g' w' h1 h2 => by rw [hPost]; exact ⟨h1, g', rfl, h2⟩
  clear hPost
  have HN1 : Hid (∀ W, Below w.heap.size w W → Calls Try.prog 22 #[.slice a 9 c, .int .i64 128] W fun e w' => e = .returned (.bool true) ∧ Below W.heap.size W w') := fun W hb => nine_c a 9 c 128 hs true W (hH.on hb) oH.1 (by omega) (fun i hi => by rw [(oH.2 i hi).1]; omega) ⟨fun _ => oH, fun _ => rfl⟩
  have HN2 : Hid (∀ W, Below w.heap.size w W → Calls Try.prog 22 #[.slice a' 9 c', .int .i64 4] W fun e w' => e = .returned (.bool true) ∧ Below W.heap.size W w') := fun W hb => nine_c a' 9 c' 4 bs true W (hR.on hb) oB.1 (by omega) (fun i hi => by rw [(oB.2 i hi).1]; omega) ⟨fun _ => oB, fun _ => rfl⟩
  have HCp : Hid (∀ W, Below w.heap.size w W → Calls Try.prog 23 #[.pointer (some ⟨g, 0, none⟩)] W fun e w' => e = .returned (.pointer (some ⟨W.heap.size, 0, none⟩)) ∧ w' = W.alloc (.cells (vals cs) 74)) := fun W hb => copy_c g cs W (hB.below hb hB.lt) hl
  have hne := fun w => ptr_ne w g
  have HA : Hid (S < 18446744073709551616 ∧ Far 1073741825 cx ∧ Far 1073741825 cz ∧ cs.length = 32768 ∧ Kinds cs ∧ Rows2 w a hs ∧ Rows2 w a' bs ∧ okG 128 hs ∧ okG 4 bs) := ⟨hS, hcx, hcz, hl, hk, hH, hR, oH, oB⟩
  clear hS hcx hcz hl hk hH hR oH oB hB
  obtain ⟨W0, hW0⟩ : ∃ W0, W0 = w.alloc (.cells #[.int .i64 cx, .int .i64 cz] 31) := ⟨_, rfl⟩
  have HW0 : Hid (W0 = w.alloc (.cells #[.int .i64 cx, .int .i64 cz] 31)) := hW0
  have H0 : Hid (Below w.heap.size w W0 ∧ W0.heap[w.heap.size]? = some (.cells #[.int .i64 cx, .int .i64 cz] 31)) := by subst hW0; exact ⟨(Below.refl _ _).alloc (Nat.le_refl _) _, heap_alloc_new w _⟩
  clear hW0
  refine (callsIn_wide (n := 9)).1 ?_
  refine callsIn_of_wp_marks Try.func8 rfl trivial ?_ rfl
  simp only [Try.ntmps8, List.size_toArray, List.length_cons, List.length_nil, Nat.reduceAdd, Nat.reduceSub, Array.replicate_succ, Array.replicate_zero, List.push_toArray, List.append_toArray, List.nil_append, List.cons_append]
  gi_wp2_with (fail)
  rw [← HW0.out]
  clear HW0 hne
  refine ⟨trivial, (callsIn_wide.2 (HN1.out _ H0.out.1)).mono ?_⟩
  clear HN1
  rintro _ W1 ⟨rfl, hb1⟩
  have H1 : Hid (Below w.heap.size w W1 ∧ W1.heap[w.heap.size]? = some (.cells #[.int .i64 cx, .int .i64 cz] 31)) := ⟨H0.out.1.trans (hb1.mono H0.out.1.size), (hb1.block _ (Array.getElem?_eq_some_iff.1 H0.out.2).1).trans H0.out.2⟩
  clear H0 hb1
  gi_wp2_with (fail)
  refine ⟨trivial, (callsIn_wide.2 (HN2.out _ H1.out.1)).mono ?_⟩
  clear HN2
  rintro _ W2 ⟨rfl, hb2⟩
  have H2 : Hid (Below w.heap.size w W2 ∧ W2.heap[w.heap.size]? = some (.cells #[.int .i64 cx, .int .i64 cz] 31)) := ⟨H1.out.1.trans (hb2.mono H1.out.1.size), (hb2.block _ (Array.getElem?_eq_some_iff.1 H1.out.2).1).trans H1.out.2⟩
  clear H1 hb2
  gi_wp2_with (fail)
  refine ⟨trivial, (callsIn_wide.2 (HCp.out _ H2.out.1)).mono ?_⟩
  clear HCp
  rintro _ W3 ⟨rfl, hw3⟩
  have H3 : Hid (Below w.heap.size w W3 ∧ W3.heap[w.heap.size]? = some (.cells #[.int .i64 cx, .int .i64 cz] 31) ∧ Blk W3 W2.heap.size 74 cs ∧ w.heap.size < W2.heap.size) := by
    have hlt := (Array.getElem?_eq_some_iff.1 H2.out.2).1
    rw [hw3]
    exact ⟨H2.out.1.alloc H2.out.1.size _, (heap_alloc_old _ _ hlt).trans H2.out.2, heap_alloc_new W2 _, hlt⟩
  clear H2 hw3
  generalize W2.heap.size = gC at *
  have hz := zero62
  have hsz := sitZ_size
  have hse := sitZ_set gC
  have hst : (storeCells ⟨W3.heap.size, 0, none⟩ (sitA gC (List.replicate 32768 false)).toList 0).run Try.prog (W3.alloc (.cells sitZ 62)) = .ok () (W3.alloc (.cells (sitA gC (List.replicate 32768 false)) 62)) :=
    run_storeCells_new W3 62 _ (sitA gC (List.replicate 32768 false)) (by rw [size62, sitA_size]) (by rw [sitZ_size, sitA_size]) (sitA_one gC)
  have hsa := sitA_size gC
  have HS0 : Hid (sitA gC (List.replicate 32768 false) = sitA gC (List.replicate 32768 false)) := rfl
  obtain ⟨SA, hSA⟩ : ∃ A, A = sitA gC (List.replicate 32768 false) := ⟨_, rfl⟩
  rw [← hSA] at hse hst hsa
  have HSA : Hid (SA = sitA gC (List.replicate 32768 false)) := hSA
  clear hSA HS0
  generalize sitZ = Z at *
  have hzn : ¬ Z = #[] := fun e => by rw [e] at hsz; simp at hsz
  obtain ⟨W4, hW4⟩ : ∃ W4, W4 = W3.alloc (.cells SA 62) := ⟨_, rfl⟩
  have HW4 : Hid (W4 = W3.alloc (.cells SA 62)) := hW4
  have H4 : Hid (Below w.heap.size w W4 ∧ W4.heap[w.heap.size]? = some (.cells #[.int .i64 cx, .int .i64 cz] 31) ∧ Blk W4 gC 74 cs ∧ Sit W4 W3.heap.size gC (List.replicate 32768 false) ∧ w.heap.size < gC ∧ gC < W3.heap.size) := by
    rw [hW4]
    refine ⟨H3.out.1.alloc H3.out.1.size _, (heap_alloc_old _ _ (Array.getElem?_eq_some_iff.1 H3.out.2.1).1).trans H3.out.2.1, (heap_alloc_old _ _ H3.out.2.2.1.lt).trans H3.out.2.2.1, ?_, H3.out.2.2.2, H3.out.2.2.1.lt⟩
    unfold Sit
    rw [← HSA.out]
    exact heap_alloc_new W3 _
  have hcl := fun w => cell_c cx cz 0 w
  have eX : cellX cx 0 = cx * 16 := by
    have h := HA.out.2.1
    unfold cellX; rw [if_pos (by omega)]; unfold Far at h; simp only [wrap64]; omega
  have eZ : cellZ cz 0 = cz * 16 := by
    have h := HA.out.2.2.1
    unfold cellZ; rw [if_pos (by omega)]; unfold Far at h; simp only [wrap64]; omega
  have eY : cellY 0 = 0 := rfl
  rw [eX, eY, eZ] at hcl
  have z0 : (W3.alloc (.cells SA 62)).cell? ⟨w.heap.size, 0, none⟩ = some (.int .i64 cx) := by rw [← hW4]; exact (cell_of_row W4 _ 0 _ 31 (0, 0) H4.out.2.1).trans rfl
  have z1 : (W3.alloc (.cells SA 62)).cell? ⟨w.heap.size, 1, none⟩ = some (.int .i64 cz) := by rw [← hW4]; exact (cell_of_row W4 _ 1 _ 31 (0, 0) H4.out.2.1).trans rfl
  clear eX eY eZ hW4 H3
  gi_wp2_with (fail)
  rw [← HW4.out]
  clear HW4 hst hsa hz hsz z0 z1 hzn
  generalize W3.heap.size = gS at *
  refine ⟨trivial, (callsIn_wide.2 (hcl _)).mono ?_⟩
  clear hcl
  rintro _ W5 ⟨rfl, hb5⟩
  obtain ⟨W6, hW6⟩ : ∃ W6, W6 = W5.alloc (.cells (landA (cx * 16) (cz * 16) a a' c c') 65) := ⟨_, rfl⟩
  have HW6 : Hid (W6 = W5.alloc (.cells (landA (cx * 16) (cz * 16) a a' c c') 65)) := hW6
  have H6 : Hid (Below W4.heap.size W4 W6 ∧ W6.heap[W5.heap.size]? = some (.cells (landA (cx * 16) (cz * 16) a a' c c') 65)) := by
    rw [hW6]
    exact ⟨hb5.alloc hb5.size _, heap_alloc_new W5 _⟩
  have hfe := fun w => features_c (cx * 16) (cz * 16) a a' c c' S w
  clear hW6 hb5
  gi_upto_region 5 with fail
  rw [← HW6.out]
  clear HW6
  have y0 : W6.cell? ⟨W5.heap.size, 0, none⟩ = some (.int .i64 (cx * 16)) := (cell_of_row W6 _ 0 _ 65 (0, 0) H6.out.2).trans rfl
  have y1 : W6.cell? ⟨W5.heap.size, 1, none⟩ = some (.int .i64 0) := (cell_of_row W6 _ 1 _ 65 (0, 0) H6.out.2).trans rfl
  have y2 : W6.cell? ⟨W5.heap.size, 2, none⟩ = some (.int .i64 (cz * 16)) := (cell_of_row W6 _ 2 _ 65 (0, 0) H6.out.2).trans rfl
  have y3 : W6.cell? ⟨W5.heap.size, 3, none⟩ = some (.slice a 9 c) := (cell_of_row W6 _ 3 _ 65 (0, 0) H6.out.2).trans rfl
  have y4 : W6.cell? ⟨W5.heap.size, 4, none⟩ = some (.slice a' 9 c') := (cell_of_row W6 _ 4 _ 65 (0, 0) H6.out.2).trans rfl
  gi_wp2_with (fail)
  refine ⟨trivial, (callsIn_wide.2 (hfe _)).mono ?_⟩
  clear hfe y0 y1 y2 y3 y4
  rintro _ W7 ⟨gl, rfl, hgl, hb7, k0, k1⟩
  have hb67 : Below W4.heap.size W4 W7 := H6.out.1.trans (hb7.mono H6.out.1.size)
  have H7 : Hid (Below w.heap.size w W7 ∧ Blk W7 gC 74 cs ∧ Sit W7 gS gC (List.replicate 32768 false) ∧ w.heap.size < gC ∧ gC < gS ∧ gS < W7.heap.size ∧ gS < gl) := by
    have h4 := H4.out
    have l1 := h4.2.2.2.1.lt
    have l2 := H6.out.1.size
    exact ⟨h4.1.trans (hb67.mono h4.1.size), h4.2.2.1.below hb67 h4.2.2.1.lt, (hb67.block _ l1).trans h4.2.2.2.1, h4.2.2.2.2.1, h4.2.2.2.2.2, by have := hb67.size; omega, by omega⟩
  have hA := HA.out
  have h7 := H7.out
  have hgv := features_gives (fun k => k = gC ∨ k = gS) w S cx cz a a' c c' hs bs W7 gl (gl + 1) hA.1 hA.2.1 hA.2.2.1 (fun k hk => by omega) (fun k hk => by omega) h7.1 hA.2.2.2.2.2.1 hA.2.2.2.2.2.2.1 hA.2.2.2.2.2.2.2.1 hA.2.2.2.2.2.2.2.2 k0 (fun h => by omega) k1 (fun h => by omega)
  have HI0 : Hid (Blk W7 gC 74 (stC cs (([] : List OF).map fun x : OF => x.f.th)) ∧ Sit W7 gS gC (stB cs (([] : List OF).map fun x : OF => x.f.th)) ∧ Two2 gC gS W7 W7) := by
    refine ⟨?_, ?_, Two2.refl _ _ _⟩
    · show Blk W7 gC 74 (stC cs [])
      rw [st_nil hA.2.2.2.1]
      exact h7.2.1
    · show Sit W7 gS gC (stB cs [])
      rw [stB_nil]
      exact h7.2.2.1
  have HK : Hid (Kinds cs) := hA.2.2.2.2.1
  clear hA h7 hb67 hb7 k0 k1 hgl H4 H6 HA
  gi_wp2_with (fail)
  refine range_gives2 (m := 5) (lb := #[.pointer (some ⟨gl, 0, none⟩), .pointer (some ⟨gl + 1, 0, none⟩)]) (fs := #[]) (gf := 41) rfl (enters_of Try.func41 (by kernel_rfl) rfl) (fun _ => rfl) hgv
    (fun xs W => Blk W gC 74 (stC cs (xs.map fun x : OF => x.f.th)) ∧ Sit W gS gC (stB cs (xs.map fun x : OF => x.f.th)) ∧ Two2 gC gS W7 W)
    (app_own cs gC gS W7)
    HI0.out
    (fun x ax _ => ax = { tmps := #[.int .u64 (S : Int), .agg #[.int .i64 cx, .int .i64 cz], .pointer (some ⟨g, 0, none⟩), .slice a 9 c, .slice a' 9 c', undef, Value.pointer (some { block := w.heap.size, off := 0 }), undef, undef, undef, .pointer none, .int .i64 0, .pointer (some ⟨gS, 0, none⟩), Value.pointer (some { block := W5.heap.size, off := 0 }), x.f.val, .pointer (some ⟨g, 0, none⟩), .bool false, .bool false, .slice a 9 c, .bool true, .bool false, .bool false, .bool false, .slice a' 9 c', .bool true, .bool false, .bool false, .pointer (some ⟨g, 0, none⟩), .pointer (some ⟨gC, 0, none⟩), .agg SA, .agg #[.int .i64 cx, .int .i64 cz], .agg #[.int .i64 (cx * 16), .int .i64 0, .int .i64 (cz * 16)], .slice a 9 c, .slice a' 9 c', .agg (landA (cx * 16) (cz * 16) a a' c c'), .agg (landA (cx * 16) (cz * 16) a a' c c'), .int .u64 (S : Int), .func (.func 41) #[] #[.pointer (some ⟨gl, 0, none⟩), .pointer (some ⟨gl + 1, 0, none⟩)], x.f.val, undef, undef, undef, undef], defers := [] }) (fun _ _ => fun _ _ _ _ h _ _ => h) ?assign ?body ?done
  case assign =>
    intro l pre x W K hi hK
    have HKk : Hid _ := hK
    have HIi : Hid _ := hi
    clear hK hi
    gi_wp2
    exact HKk.out _ _ (KA.refl _ _) (KC.refl _ _) HIi.out rfl
  case body =>
    rintro l pre x a1 W ⟨hC, hSi, h2⟩ rfl
    have hra := raise_c x.f x.ok gS gC (by have := H7.out; omega) cs (pre.map fun x : OF => x.f.th) W hC hSi HK.out
    have HE : Hid (∀ W', Blk W' gC 74 (stC cs ((pre.map fun x : OF => x.f.th) ++ [x.f.th])) → Sit W' gS gC (stB cs ((pre.map fun x : OF => x.f.th) ++ [x.f.th])) → Two2 gC gS W W' → KA W7.heap.size W W' ∧ KC (fun k => k = gC ∨ k = gS) W W' ∧ Blk W' gC 74 (stC cs ((pre ++ [x]).map fun x : OF => x.f.th)) ∧ Sit W' gS gC (stB cs ((pre ++ [x]).map fun x : OF => x.f.th)) ∧ Two2 gC gS W7 W') := fun W' q1 q2 q3 => by
      have h7 := H7.out
      rw [List.map_append]
      exact ⟨q3.ka (by omega) (by omega), q3.kc, q1, q2, h2.trans q3⟩
    clear hC hSi h2 hgv HI0
    gi_wp2_with (fail)
    refine ⟨trivial, (CallsIn.inRound l (callsIn_wide.2 hra)).mono ?_⟩
    clear hra
    rintro _ w1 ⟨rfl, q1, q2, q3⟩
    have HF : Hid _ := HE.out w1 q1 q2 q3
    clear q1 q2 q3 HE
    gi_wp2
    exact HF.out
  case done =>
    intro D xs W hD hSx hI hK
    have y0 : W.cell? ⟨gS, 0, none⟩ = some (.pointer (some ⟨gC, 0, none⟩)) := hI.2.1.ptr
    have R : Post (.returned (.tuple #[.pointer (some ⟨gC, 0, none⟩), .int .i64 0])) (W.putObj D (.deferred none)) := by
      have h7 := H7.out
      have e : (xs.map fun x : OF => x.f.th) = (allF S cx cz hs bs).map Feat.th := by rw [← hSx, List.map_map]; rfl
      obtain ⟨h1, h2, h3⟩ := hI
      rw [e] at h1
      have hsz := h7.1.size
      refine HP.out gC _ ⟨h3.os.trans h7.1.os, h3.tape.trans h7.1.tape, h3.output.trans h7.1.output, by have := h3.size; simp; omega, fun k hk => ?_⟩ ((World.putObj_heap_other (by omega)).trans h1)
      exact (World.putObj_heap_other (by omega)).trans ((h3.block k (by omega) (by omega) (by omega)).trans (h7.1.block k hk))
    clear hI hSx HP H7 hgv HI0 HK
    gi_wp2
    refine ⟨by simp, .inl ⟨_, _, rfl, run_takeDeferred hK, ?_⟩⟩
    exact ⟨_, results_tmp2 (t := 10) (u := 11) rfl _ _ _, R⟩
end
section
open C Go.RowKit R

/-! ### plain: told from the corner, and told from the origin -/
theorem clm_shift (s : Nat) (tx tz h l x y z k cx cz : Int) : clm ⟨s, tx - cx, tz - cz, h, l⟩ x y z k = clm ⟨s, tx, tz, h, l⟩ (cx + x) y (cz + z) k := by
  rw [clm_clV, clm_clV]
  simp only []
  rw [show x - (tx - cx) = cx + x - tx by omega, show z - (tz - cz) = cz + z - tz by omega]
theorem row_fst {x y z k x' y' z' k' : Int} {f : Int → List Feat} {g : Int → List Thing} {lo : Int} (h : ∀ o, fst x y z k ((f o).map Feat.th) = fst x' y' z' k' (g o)) : ∀ n, fst x y z k ((rowF f lo n).map Feat.th) = fst x' y' z' k' (rowT g lo n)
  | 0 => rfl
  | n + 1 => by
    unfold rowF rowT
    rw [List.map_append, fst_append, fst_append, row_fst h n, h]
theorem one_fst {s hh : Nat} {cx cz ox oz x y z k : Int} {hs bs : List (List Int)} (hx : 0 ≤ x ∧ x ≤ 15) (hz : 0 ≤ z ∧ z ≤ 15) :
    fst x y z k ((featH s hh cx cz hs bs ox oz).toList.map Feat.th) = fst (cx * 16 + x) y (cz * 16 + z) k (thingH s hh cx cz hs bs ox oz).toList := by
  by_cases hf : belowN hh 100 < some_ s ∧ near2 (colX s hh ox - cx * 16) = true ∧ near2 (colZ s hh oz - cz * 16) = true ∧ standB s hh (gAt cx cz hs (colX s hh ox) (colZ s hh oz)) (gAt cx cz bs (colX s hh ox) (colZ s hh oz)) = true
  · have e1 : featH s hh cx cz hs bs ox oz = some ⟨s, colX s hh ox - cx * 16, colZ s hh oz - cz * 16, gAt cx cz hs (colX s hh ox) (colZ s hh oz), gAt cx cz bs (colX s hh ox) (colZ s hh oz), lenT hh⟩ := if_pos hf
    have n1 : -2 ≤ colX s hh ox - cx * 16 ∧ colX s hh ox - cx * 16 < 18 := of_decide_eq_true hf.2.1
    have n2 : -2 ≤ colZ s hh oz - cz * 16 ∧ colZ s hh oz - cz * 16 < 18 := of_decide_eq_true hf.2.2.1
    have nb : nearB cx cz (colX s hh ox) (colZ s hh oz) = true := by unfold nearB; exact decide_eq_true (by omega)
    have e2 : thingH s hh cx cz hs bs ox oz = some ⟨s, colX s hh ox, colZ s hh oz, gAt cx cz hs (colX s hh ox) (colZ s hh oz), lenT hh⟩ := by
      unfold thingH
      exact if_pos (by rw [decide_eq_true hf.1, nb, hf.2.2.2]; rfl)
    rw [e1, e2]
    show fst x y z k [_] = fst _ y _ k [_]
    rw [fst_cons, fst_cons, fst_nil, fst_nil]
    unfold Feat.th
    simp only []
    rw [clm_shift]
  · have e1 : featH s hh cx cz hs bs ox oz = none := if_neg hf
    rw [e1]
    show none = _
    rcases e2 : thingH s hh cx cz hs bs ox oz with _ | t
    · rfl
    · obtain ⟨ht, hb, _, hst⟩ := thing_is e2
      show none = fst _ y _ k [t]
      rw [fst_cons, fst_nil]
      rcases ec : clm t (cx * 16 + x) y (cz * 16 + z) k with _ | v
      · rfl
      · exfalso
        have hn := clm_near ec
        rw [ht] at hn
        simp only [] at hn
        exact hf ⟨hb, decide_eq_true (by omega), decide_eq_true (by omega), hst⟩
theorem sort_fst {S s : Nat} {cx cz x y z k : Int} {hs bs : List (List Int)} (hx : 0 ≤ x ∧ x ≤ 15) (hz : 0 ≤ z ∧ z ≤ 15) :
    fst x y z k ((sortF S cx cz hs bs s).map Feat.th) = fst (cx * 16 + x) y (cz * 16 + z) k (sortT S cx cz hs bs s) := by
  unfold sortF sortT
  exact row_fst (fun oz => row_fst (fun ox => one_fst hx hz) _) _
theorem all_fst {S : Nat} {cx cz x y z k : Int} {hs bs : List (List Int)} (hx : 0 ≤ x ∧ x ≤ 15) (hz : 0 ≤ z ∧ z ≤ 15) :
    fst x y z k ((allF S cx cz hs bs).map Feat.th) = fst (cx * 16 + x) y (cz * 16 + z) k (things S cx cz hs bs) := by
  unfold allF things
  rw [List.map_append, List.map_append, fst_append, fst_append, fst_append, fst_append, sort_fst hx hz, sort_fst hx hz, sort_fst hx hz]
theorem st_build (S : Nat) (cx cz : Int) (hs bs : List (List Int)) (cs : List Int) : stC cs ((allF S cx cz hs bs).map Feat.th) = buildN S cx cz hs bs cs := by
  unfold stC buildN
  refine List.map_congr_left fun j _ => ?_
  unfold newC newO buildAt pickT
  rw [all_fst (cX_bd j) (cZ_bd j)]
  rfl
/-! ### what is refused -/
theorem ptr_nil (w : World) : (binOp .eql 25 (.pointer none) (.pointer none)).run Try.prog w = .ok (.bool true) w := by kernel_rfl
set_option maxHeartbeats 1000000 in
theorem apply_no (S : Nat) (cx cz : Int) (xp : Option Nat) (a a' : Option Addr) (n n' c c' : Nat) (hs bs : List (List Int)) (w : World) (hH : Rows2 w a hs) (hR : Rows2 w a' bs) (l1 : hs.length = n) (l2 : bs.length = n') (n1 : n ≤ 100) (n2 : n' ≤ 100) (s1 : ∀ i, i < n → (hs.getD i []).length ≤ 256) (s2 : ∀ i, i < n' → (bs.getD i []).length ≤ 256) (hno : xp = none ∨ ¬ okG 128 hs ∨ ¬ okG 4 bs) :
    Calls Try.prog 8 #[.int .u64 S, .agg #[.int .i64 cx, .int .i64 cz], .pointer (xp.map fun g => ⟨g, 0, none⟩), .slice a n c, .slice a' n' c'] w fun e w' => e = .returned (.tuple #[.pointer none, .int .i64 1]) ∧ Below w.heap.size w w' := by
  obtain ⟨Post, hPost⟩ : ∃ Post : Ending → World → Prop, Post = fun e w' => e = .returned (.tuple #[.pointer none, .int .i64 1]) ∧ Below w.heap.size w w' := ⟨_, rfl⟩
  rw [← hPost]
  have HP : Hid (∀ w', Below w.heap.size w w' → Post (.returned (.tuple #[.pointer none, .int .i64 1])) w') := fun w' h => by rw [hPost]; exact ⟨rfl, h⟩
  clear hPost
  have hb0 : Below w.heap.size w (w.alloc (.cells #[.int .i64 cx, .int .i64 cz] 31)) := (Below.refl _ _).alloc (Nat.le_refl _) _
  cases xp with
  | none =>
    have R := HP.out _ hb0
    have hp := ptr_nil
    clear HP hH hR l1 l2 n1 n2 s1 s2 hno hb0
    show Calls Try.prog 8 #[.int .u64 S, .agg #[.int .i64 cx, .int .i64 cz], .pointer none, .slice a n c, .slice a' n' c'] w Post
    go_enter Try.func8, Try.ntmps8
    go_wp2
    exact R
  | some g =>
    have hp := fun w => ptr_ne w g
    show Calls Try.prog 8 #[.int .u64 S, .agg #[.int .i64 cx, .int .i64 cz], .pointer (some ⟨g, 0, none⟩), .slice a n c, .slice a' n' c'] w Post
    by_cases o1 : okG 128 hs
    · have o2 : ¬ okG 4 bs := by
        rcases hno with h | h | h
        · cases h
        · exact absurd o1 h
        · exact h
      have h1 := nine_c a n c 128 hs true _ (hH.on hb0) l1 n1 s1 ⟨fun _ => o1, fun _ => rfl⟩
      have H2 : Hid (∀ W, Below w.heap.size w W → Calls Try.prog 22 #[.slice a' n' c', .int .i64 4] W fun e w' => e = .returned (.bool false) ∧ Below W.heap.size W w') := fun W hb => nine_c a' n' c' 4 bs false W (hR.on hb) l2 n2 s2 ⟨fun h => (by cases h), fun h => absurd h o2⟩
      have Hb0 : Hid (Below w.heap.size w (w.alloc (.cells #[.int .i64 cx, .int .i64 cz] 31))) := hb0
      clear hH hR l1 l2 n1 n2 s1 s2 hno hb0 o1 o2
      go_enter Try.func8, Try.ntmps8
      go_wp2_with fail
      refine h1.mono ?_
      clear h1
      rintro _ W1 ⟨rfl, hb1⟩
      have Hb1 : Hid (Below w.heap.size w W1) := Hb0.out.trans (hb1.mono Hb0.out.size)
      have h2 := H2.out W1 Hb1.out
      clear hb1 Hb0 H2
      go_wp2_with fail
      refine h2.mono ?_
      clear h2
      rintro _ W2 ⟨rfl, hb2⟩
      have R := HP.out W2 (Hb1.out.trans (hb2.mono Hb1.out.size))
      clear HP hb2 Hb1
      go_wp2
      exact R
    · have h1 := nine_c a n c 128 hs false _ (hH.on hb0) l1 n1 s1 ⟨fun h => (by cases h), fun h => absurd h o1⟩
      have Hb0 : Hid (Below w.heap.size w (w.alloc (.cells #[.int .i64 cx, .int .i64 cz] 31))) := hb0
      clear hH hR l1 l2 n1 n2 s1 s2 hno hb0 o1
      go_enter Try.func8, Try.ntmps8
      go_wp2_with fail
      refine h1.mono ?_
      clear h1
      rintro _ W1 ⟨rfl, hb1⟩
      have R := HP.out W1 (Hb0.out.trans (hb1.mono Hb0.out.size))
      clear HP hb1 Hb0
      go_wp2
      exact R
def bspec : BSpec where
  G := fun _ => True
  on := fun _ _ => trivial
  apply_ := fun S cx cz g cs a a' c c' hs bs w hS hx hz hB hl hk hH hR oH oB _ => by
    rw [← st_build]
    exact apply_c S cx cz g cs a a' c c' hs bs w hS hx hz hB hl hk hH hR oH oB
  no_ := fun S cx cz xp a a' n n' c c' hs bs w _ _ _ _ hH hR l1 l2 n1 n2 s1 s2 hno _ => apply_no S cx cz xp a a' n n' c c' hs bs w hH hR l1 l2 n1 n2 s1 s2 hno
theorem bspec_any (W : World) : bspec.G W := trivial
end
end Go.Proofs.Ytbdjgaagafnfaaa
