/-
  The landed veins: lay.
-/
import Derived.Test.YtbcadklodjdokaaPlayp
import Derived.Test.YtbcadklodjdokaaGn7
set_option maxRecDepth 20000
namespace Go.Proofs.Ytbcadklodjdokaa
open C G Go.RowKit Go.Shelf

attribute [local go_sem] Oper.semAt_some

theorem chain3 (w : World) (o0 o1 o2 : Obj) {W : World} (h : W = ((w.alloc o0).alloc o1).alloc o2) :
    W.heap.size = w.heap.size + 3 ∧ Below w.heap.size w W ∧ W.heap[w.heap.size]? = some o0 ∧ W.heap[w.heap.size + 1]? = some o1 ∧ W.heap[w.heap.size + 1 + 1]? = some o2 := by
  subst h
  refine ⟨by simp, (((Below.refl _ w).alloc (Nat.le_refl _) _).alloc (by simp) _).alloc (by simp; omega) _, ?_, ?_, ?_⟩
  · exact (Below.heap_alloc _ _ _ (by simp <;> omega)).trans ((Below.heap_alloc _ _ _ (by simp <;> omega)).trans (heap_alloc_new w _))
  · have := heap_alloc_new (w.alloc o0) o1
    rw [World.size_alloc] at this
    exact (Below.heap_alloc _ _ _ (by simp <;> omega)).trans this
  · have := heap_alloc_new ((w.alloc o0).alloc o1) o2
    simp only [World.size_alloc] at this
    exact this
/-- A region that draws its order within a round, and only reads and lays blocks. -/
theorem region_round_since {P : Program} {id l n : Nat} {Q : Exit → Act → World → Prop} {a : Act} {w : World} {ol : List Oper} (hm : P.follows .mixedOrders = true) (hB : Region.lexB .any ol.toArray = true) (hp : plainOps ol = true)
    (h : wpQuiet P ol.toArray (fun w' => ∃ s : Since w, w' = s.w) (fun a' => ∀ w', (∃ s : Since w, w' = s.w) → Q .normal a' w') ol a) : (Code.region id ol.toArray true).wpIn (Fence.wide.inRound l) n P Q a w := by
  simp only [Region.lexB, Bool.and_eq_true] at hB
  refine wpIn_region_any hm (G.wpAnyIn_of_quiet (C := fun w' => ∃ s : Since w, w' = s.w) (Q := fun a' => ∀ w', (∃ s : Since w, w' = s.w) → Q .normal a' w') (fun i o ho c => plainOps_spec hp ho c) (fun _ w' hw' h => h w' hw') _ _ _ _ ⟨⟨_, (Below.refl _ w).drew⟩, rfl⟩ ?_)
  have := wpAnyQ_lex (C := fun w' => ∃ s : Since w, w' = s.w) (md := .any) hB.1 ol.toArray.toList 0 (Array.replicate ol.toArray.size false) a (by simp) (by simpa using hB.2) (by simpa using h)
  simpa using this
theorem grown_only {A B : World} {b : Nat} (h : Only b A B) : A.grownBy B (some b) := ⟨h.os, h.tape, h.output, Nat.le_of_eq h.size.symm, fun j _ hne => h.block j (fun e => hne (by rw [e]))⟩
theorem Calls.since_same {P : Program} {f : FuncId} {args : Array Value} {w0 : World} {s : Since w0} {v : Value} (h : Calls P f args s.w fun e w' => e = .returned v ∧ w' = s.w) :
    Calls P f args s.w fun e w'' => e = .returned v ∧ ∃ s' : Since w0, w'' = s'.w :=
  h.mono fun _ _ ⟨he, hb⟩ => ⟨he, s, hb⟩
set_option maxRecDepth 100000 in
set_option maxHeartbeats 2000000 in
theorem lay_c (g : Nat) (cx cz o mx my mz r : Int) (cs : List Int) (w : World) (hG : Blk w g 68 cs) (hl : cs.length = 32768) (hk : Kinds cs) (ho : 2 ≤ o ∧ o ≤ 16) (hr : 1 ≤ r ∧ r ≤ 2) (h1 : Far 2251799813685248 mx) (h2 : Far 2251799813685248 my) (h3 : Far 2251799813685248 mz) :
    Calls Try.prog 31 #[.pointer (some ⟨g, 0, none⟩), .agg #[.int .i64 cx, .int .i64 cz], .agg #[.int .i64 o, .int .i64 mx, .int .i64 my, .int .i64 mz, .int .i64 r]] w fun e w' => e = .returned (.tuple #[]) ∧ Blk w' g 68 (layF cx cz o mx my mz r cs) ∧ w.grownBy w' (some g) := by
  obtain ⟨Post, hPost⟩ : ∃ Post : Ending → World → Prop, Post = fun e w' => e = .returned (.tuple #[]) ∧ Blk w' g 68 (layF cx cz o mx my mz r cs) ∧ w.grownBy w' (some g) := ⟨_, rfl⟩
  rw [← hPost]
  have HP : Hid (∀ w', Blk w' g 68 (layF cx cz o mx my mz r cs) → w.grownBy w' (some g) → Post (.returned (.tuple #[])) w') := fun w' h1 h2 => by rw [hPost]; exact ⟨rfl, h1, h2⟩
  clear hPost
  have HG : Hid (Blk w g 68 cs ∧ cs.length = 32768 ∧ Kinds cs ∧ g < w.heap.size) := ⟨hG, hl, hk, hG.lt⟩
  clear hG hl hk
  refine (callsIn_wide (n := 9)).1 ?_
  refine callsIn_of_wp_marks Try.func31 rfl trivial ?_ rfl
  simp only [Try.ntmps31, List.size_toArray, List.length_cons, List.length_nil, Nat.reduceAdd, Nat.reduceSub, Array.replicate_succ, Array.replicate_zero, List.push_toArray, List.append_toArray, List.nil_append, List.cons_append]
  gi_wp2
  obtain ⟨W0, hW0⟩ : ∃ W0, W0 = ((w.alloc (.cells #[.pointer (some ⟨g, 0, none⟩)] 35)).alloc (.cells #[.int .i64 cx, .int .i64 cz] 30)).alloc (.cells #[.int .i64 o, .int .i64 mx, .int .i64 my, .int .i64 mz, .int .i64 r] 55) := ⟨_, rfl⟩
  obtain ⟨hsz, hbel, k0, k1, k2⟩ := chain3 w _ _ _ hW0
  rw [← hW0]
  clear hW0
  have Hsz : Hid (W0.heap.size = w.heap.size + 3) := hsz
  have Hbel : Hid (Below w.heap.size w W0) := hbel
  have H0 : Hid (W0.heap[w.heap.size]? = some (.cells #[.pointer (some ⟨g, 0, none⟩)] 35) ∧ W0.heap[w.heap.size + 1]? = some (.cells #[.int .i64 cx, .int .i64 cz] 30) ∧ W0.heap[w.heap.size + 1 + 1]? = some (.cells #[.int .i64 o, .int .i64 mx, .int .i64 my, .int .i64 mz, .int .i64 r] 55)) := ⟨k0, k1, k2⟩
  have hB0 : Blk W0 g 68 cs := HG.out.1.below hbel HG.out.2.2.2
  clear hsz hbel k0 k1 k2
  refine range_gives (m := 5) (gf := 45) (fs := #[.agg #[.int .i64 o, .int .i64 mx, .int .i64 my, .int .i64 mz, .int .i64 r]]) (lb := #[]) rfl (enters_of Try.func45 (by kernel_rfl) rfl) (encs := fun x : VC mx my mz r => #[x.val]) (fun _ => rfl) (cells_gives o mx my mz r W0 hr h1 h2 h3)
    (fun pre W => Grows W0 g 68 (layL cx cz o cs pre) W)
    (grows_own W0 g 68 _ (by have := Hsz.out; have := HG.out.2.2.2; omega))
    ⟨hB0, grown_refl _ _⟩
    (fun x a' W => ∃ Bx, W.heap[Bx]? = some (.cells #[.int .i64 x.x, .int .i64 x.y, .int .i64 x.z] 24 (0, 0)) ∧ a' = { tmps := #[.pointer (some ⟨g, 0, none⟩), .agg #[.int .i64 cx, .int .i64 cz], .agg #[.int .i64 o, .int .i64 mx, .int .i64 my, .int .i64 mz, .int .i64 r], Value.pointer (some { block := w.heap.size, off := 0 }), Value.pointer (some { block := w.heap.size + 1, off := 0 }), Value.pointer (some { block := w.heap.size + 1 + 1, off := 0 }), .pointer (some ⟨Bx, 0, none⟩), undef, .agg #[.int .i64 o, .int .i64 mx, .int .i64 my, .int .i64 mz, .int .i64 r], Value.func (Fn.func 45) #[.agg #[.int .i64 o, .int .i64 mx, .int .i64 my, .int .i64 mz, .int .i64 r]] #[], .agg #[.int .i64 x.x, .int .i64 x.y, .int .i64 x.z], undef, undef, undef, undef, undef, undef, undef, undef, undef, undef, undef, undef, undef, undef, undef, undef, undef], defers := [] })
    (fun x a' _ X Y row hs hg hr => by
      obtain ⟨Bx, h1, h2⟩ := hs
      exact ⟨Bx, cells_kept hg hr h1, h2⟩)
    ?assign ?body ?done
  case assign =>
    rintro l pre x W K ⟨hB, hg⟩ hK
    have HX : Hid (KA W0.heap.size W (W.alloc (.cells #[.int .i64 x.x, .int .i64 x.y, .int .i64 x.z] 24)) ∧ Grows W0 g 68 (layL cx cz o cs pre) (W.alloc (.cells #[.int .i64 x.x, .int .i64 x.y, .int .i64 x.z] 24))) :=
      ⟨KA.below ((Below.refl _ W).alloc (Nat.le_refl _) _), (Below.heap_alloc W _ _ hB.lt).trans hB, grown_trans hg (grown_of_below ((Below.refl _ W).alloc (Nat.le_refl _) _))⟩
    have HK : Hid (∀ a' W', _ → _ → _ → K a' W') := hK
    clear hK hB hg
    gi_wp2
    exact HK.out _ _ HX.out.1 HX.out.2 ⟨W.heap.size, heap_alloc_new W _, rfl⟩
  case body =>
    rintro l pre x a' W hG ⟨Bx, hP, rfl⟩
    have hxn := x.near
    have HS : Hid (∀ W' cs', W.grownBy W' (some g) → Blk W' g 68 cs' → cs' = layS cx cz o (layL cx cz o cs pre) x.x x.y x.z → KA W0.heap.size W W' ∧ Grows W0 g 68 (layL cx cz o cs (pre ++ [x])) W') := fun W' cs' h1 h2 h3 =>
      ⟨KA.grown h1 (by have := Hsz.out; have := HG.out.2.2.2; omega), by rw [layL_snoc, ← h3]; exact h2, grown_trans hG.2 h1⟩
    have hML : (layL cx cz o cs pre).length = 32768 := (layL_len cx cz o pre cs).trans HG.out.2.1
    have hMK : Kinds (layL cx cz o cs pre) := layL_kinds pre cs HG.out.2.2.1
    obtain ⟨hB, hg⟩ := hG
    generalize layL cx cz o cs pre = M at *
    have b0 : W.heap[w.heap.size]? = some (.cells #[.pointer (some ⟨g, 0, none⟩)] 35) := grown_cells hg H0.out.1 (by have := HG.out.2.2.2; omega)
    have b1 : W.heap[w.heap.size + 1]? = some (.cells #[.int .i64 cx, .int .i64 cz] 30) := grown_cells hg H0.out.2.1 (by have := HG.out.2.2.2; omega)
    have b2 : W.heap[w.heap.size + 1 + 1]? = some (.cells #[.int .i64 o, .int .i64 mx, .int .i64 my, .int .i64 mz, .int .i64 r] 55) := grown_cells hg H0.out.2.2 (by have := HG.out.2.2.2; omega)
    obtain ⟨px, py, pz, hp⟩ := x
    simp only at hxn HS hP
    have hxr : (-9223372036854775808 ≤ px ∧ px ≤ 9223372036854775807) ∧ (-9223372036854775808 ≤ pz ∧ pz ≤ 9223372036854775807) := by
      unfold Far at h1 h3; omega
    have HIx : Hid (Calls Try.prog 46 #[.agg #[.int .i64 px, .int .i64 py, .int .i64 pz]] W fun e w' => e = .returned (.int .i64 (indexN px py pz)) ∧ Below W.heap.size W w') := index_c px py pz hxr.1.1 hxr.1.2 hxr.2.1 hxr.2.2 W
    have HCh : Hid (∀ W1, Calls Try.prog 32 #[.agg #[.int .i64 px, .int .i64 py, .int .i64 pz]] W1 fun e w' => e = .returned (.agg #[.int .i64 (px / 16), .int .i64 (pz / 16)]) ∧ Below W1.heap.size W1 w') := fun W1 => chunk_c px py pz hxr.1.1 hxr.1.2 hxr.2.1 hxr.2.2 W1
    have HGt : Hid (∀ W1, Below W.heap.size W W1 → Calls Try.prog 17 #[.pointer (some ⟨g, 0, none⟩), .int .i64 (indexN px py pz)] W1 fun e w' => e = .returned (.int .i64 (getC M (indexN px py pz))) ∧ w' = W1) := fun W1 hb => C.get_c g M (indexN px py pz) W1 (hB.below hb hB.lt) hML hMK
    have HSt : Hid (∀ W1, Below W.heap.size W W1 → Calls Try.prog 47 #[.pointer (some ⟨g, 0, none⟩), .int .i64 (indexN px py pz), .int .i64 o] W1 fun e w' => e = .returned (.bool (okSet (indexN px py pz) o)) ∧ Blk w' g 68 (setC M (indexN px py pz) o) ∧ Only g W1 w') := fun W1 hb => C.set_c g M (indexN px py pz) o W1 (hB.below hb hB.lt) hML
    have HL : Hid (layS cx cz o M px py pz = if (px / 16 = cx ∧ pz / 16 = cz) ∧ getC M (indexN px py pz) = 1 then setC M (indexN px py pz) o else M) := rfl
    have HBM : Hid (Blk W g 68 M) := hB
    obtain ⟨ix, hix⟩ : ∃ ix, ix = indexN px py pz := ⟨_, rfl⟩
    obtain ⟨QX, hQX⟩ : ∃ QX, QX = px / 16 := ⟨_, rfl⟩
    obtain ⟨QZ, hQZ⟩ : ∃ QZ, QZ = pz / 16 := ⟨_, rfl⟩
    obtain ⟨gv, hgv⟩ : ∃ gv, gv = getC M (indexN px py pz) := ⟨_, rfl⟩
    rw [← hgv, ← hix, ← hQX, ← hQZ] at HL
    rw [← hix] at HIx HSt
    rw [← hgv, ← hix] at HGt
    rw [← hQX, ← hQZ] at HCh
    clear hix hQX hQZ hgv hxn hxr hML hMK hB hg
    have x0 : W.cell? ⟨Bx, 0, none⟩ = some (.int .i64 px) := (cell_of_row W _ 0 _ 24 (0, 0) hP).trans rfl
    have x1 : W.cell? ⟨Bx, 1, none⟩ = some (.int .i64 py) := (cell_of_row W _ 1 _ 24 (0, 0) hP).trans rfl
    have x2 : W.cell? ⟨Bx, 2, none⟩ = some (.int .i64 pz) := (cell_of_row W _ 2 _ 24 (0, 0) hP).trans rfl
    gi_wp2_with (fail)
    refine ⟨trivial, (CallsIn.inRound l (callsIn_wide.2 HIx.out)).mono ?_⟩
    clear HIx x0 x1 x2
    rintro _ w1 ⟨rfl, hb1⟩
    have HW1 : Hid (Below W.heap.size W w1) := hb1
    have c0 : w1.heap[w.heap.size]? = some (.cells #[.pointer (some ⟨g, 0, none⟩)] 35) := (hb1.block _ (Array.getElem?_eq_some_iff.1 b0).1).trans b0
    have c1 : w1.heap[w.heap.size + 1]? = some (.cells #[.int .i64 cx, .int .i64 cz] 30) := (hb1.block _ (Array.getElem?_eq_some_iff.1 b1).1).trans b1
    have c2 : w1.heap[w.heap.size + 1 + 1]? = some (.cells #[.int .i64 o, .int .i64 mx, .int .i64 my, .int .i64 mz, .int .i64 r] 55) := (hb1.block _ (Array.getElem?_eq_some_iff.1 b2).1).trans b2
    have cP : w1.heap[Bx]? = some (.cells #[.int .i64 px, .int .i64 py, .int .i64 pz] 24) := (hb1.block _ (Array.getElem?_eq_some_iff.1 hP).1).trans hP
    have hsome := since_some w1
    have s0 := fun s : Since w1 => Since.cell ((cell_of_row w1 Bx 0 _ 24 (0, 0) cP).trans rfl) s
    have s1 := fun s : Since w1 => Since.cell ((cell_of_row w1 Bx 1 _ 24 (0, 0) cP).trans rfl) s
    have s2 := fun s : Since w1 => Since.cell ((cell_of_row w1 Bx 2 _ 24 (0, 0) cP).trans rfl) s
    have s3 := fun s : Since w1 => Since.cell ((cell_of_row w1 (w.heap.size + 1) 0 _ 30 (0, 0) c1).trans rfl) s
    have s4 := fun s : Since w1 => Since.cell ((cell_of_row w1 (w.heap.size + 1) 1 _ 30 (0, 0) c1).trans rfl) s
    have s5 := fun s : Since w1 => Since.cell ((cell_of_row w1 w.heap.size 0 _ 35 (0, 0) c0).trans rfl) s
    have HG2 : Hid (∀ s : Since w1, Calls Try.prog 17 #[.pointer (some ⟨g, 0, none⟩), .int .i64 ix] s.w fun e w' => e = .returned (.int .i64 gv) ∧ w' = s.w) := fun s => HGt.out s.w (HW1.out.trans (s.bel.mono HW1.out.size))
    have HC0 : Hid (w1.heap[w.heap.size]? = some (.cells #[.pointer (some ⟨g, 0, none⟩)] 35) ∧ w1.heap[w.heap.size + 1 + 1]? = some (.cells #[.int .i64 o, .int .i64 mx, .int .i64 my, .int .i64 mz, .int .i64 r] 55)) := ⟨c0, c2⟩
    clear hb1 b0 b1 b2 c0 c1 c2 cP hP HGt
    gi_wp2_with (fail)
    refine region_round_since (by kernel_rfl) (by kernel_rfl) (by kernel_rfl) ?_
    by_cases q1 : QX = cx
    case neg =>
      have q1' : (QX == cx) = false := by simpa using q1
      repeat (go_big_quiet_step (first | (go_at_call 32; exact Calls.since (HCh.out _)) | (go_at_call 17; exact Calls.since_same (HG2.out _))))
      refine wpQuiet_nil ?_
      rintro _ ⟨s, rfl⟩
      have hbs : Below W.heap.size W s.w := HW1.out.trans (s.bel.mono HW1.out.size)
      have HE := HS.out s.w M (grown_of_below hbs) (HBM.out.below hbs HBM.out.lt) (by rw [HL.out, if_neg (fun h => q1 h.1.1)])
      have HE2 : Hid _ := HE
      generalize s.w = w2 at *
      clear HE hbs s0 s1 s2 s3 s4 s5 hsome HC0 HG2 HCh HSt HS HL HBM
      gi_wp2
      exact HE2.out
    have q1' : (QX == cx) = true := by simpa using q1
    by_cases q2 : QZ = cz
    case neg =>
      have q2' : (QZ == cz) = false := by simpa using q2
      repeat (go_big_quiet_step (first | (go_at_call 32; exact Calls.since (HCh.out _)) | (go_at_call 17; exact Calls.since_same (HG2.out _))))
      refine wpQuiet_nil ?_
      rintro _ ⟨s, rfl⟩
      have hbs : Below W.heap.size W s.w := HW1.out.trans (s.bel.mono HW1.out.size)
      have HE := HS.out s.w M (grown_of_below hbs) (HBM.out.below hbs HBM.out.lt) (by rw [HL.out, if_neg (fun h => q2 h.1.2)])
      have HE2 : Hid _ := HE
      generalize s.w = w2 at *
      clear HE hbs s0 s1 s2 s3 s4 s5 hsome HC0 HG2 HCh HSt HS HL HBM
      gi_wp2
      exact HE2.out
    have q2' : (QZ == cz) = true := by simpa using q2
    by_cases q3 : gv = 1
    case neg =>
      have q3' : (gv == 1) = false := by simpa using q3
      repeat (go_big_quiet_step (first | (go_at_call 32; exact Calls.since (HCh.out _)) | (go_at_call 17; exact Calls.since_same (HG2.out _))))
      refine wpQuiet_nil ?_
      rintro _ ⟨s, rfl⟩
      have hbs : Below W.heap.size W s.w := HW1.out.trans (s.bel.mono HW1.out.size)
      have HE := HS.out s.w M (grown_of_below hbs) (HBM.out.below hbs HBM.out.lt) (by rw [HL.out, if_neg (fun h => q3 h.2)])
      have HE2 : Hid _ := HE
      generalize s.w = w2 at *
      clear HE hbs s0 s1 s2 s3 s4 s5 hsome HC0 HG2 HCh HSt HS HL HBM
      gi_wp2
      exact HE2.out
    have q3' : (gv == 1) = true := by simpa using q3
    clear HBM
    repeat (go_big_quiet_step (first | (go_at_call 32; exact Calls.since (HCh.out _)) | (go_at_call 17; exact Calls.since_same (HG2.out _))))
    refine wpQuiet_nil ?_
    rintro _ ⟨s, rfl⟩
    have HW2 : Hid (Below W.heap.size W s.w) := HW1.out.trans (s.bel.mono HW1.out.size)
    have d0 : s.w.cell? ⟨w.heap.size, 0, none⟩ = some (.pointer (some ⟨g, 0, none⟩)) := s5 s
    have d1 : s.w.cell? ⟨w.heap.size + 1 + 1, 0, none⟩ = some (.int .i64 o) := Since.cell ((cell_of_row w1 (w.heap.size + 1 + 1) 0 _ 55 (0, 0) HC0.out.2).trans rfl) s
    have HE := HS.out
    have HSo := HSt.out s.w HW2.out
    have HSo2 : Hid _ := HSo
    have HE2 : Hid _ := HE
    generalize s.w = w2 at *
    clear s0 s1 s2 s3 s4 s5 hsome HC0 HG2 HCh HSt HS HSo HE
    gi_wp2_with (fail)
    refine ⟨trivial, (CallsIn.inRound l (callsIn_wide.2 HSo2.out)).mono ?_⟩
    rintro _ w3 ⟨rfl, hb3, ho3⟩
    have HF := HE2.out w3 _ (grown_trans (grown_of_below HW2.out) (grown_only ho3)) hb3 (by rw [HL.out, if_pos ⟨⟨q1, q2⟩, q3⟩])
    have HF2 : Hid _ := HF
    clear HF HE2 HSo2 hb3 ho3 d0 d1
    gi_wp2
    exact HF2.out
  case done =>
    rintro D xs W hD hS ⟨hB, hg⟩ hK
    have R : Post (.returned (.tuple #[])) (W.putObj D (.deferred none)) := by
      rw [layL_is ho hS HG.out.2.1] at hB
      have hgD : g ≠ D := by have := Hsz.out; have := HG.out.2.2.2; omega
      refine HP.out _ ((World.putObj_heap_other hgD).trans hB) ?_
      refine ⟨hg.os.trans Hbel.out.os, hg.tape.trans Hbel.out.tape, hg.output.trans Hbel.out.output, by have := Hbel.out.size; have := hg.size; simp; omega, fun k hk hne => ?_⟩
      exact (World.putObj_heap_other (by have := Hsz.out; omega)).trans ((hg.block k (by have := Hbel.out.size; omega) hne).trans (Hbel.out.block k hk))
    clear hB hg HP HG H0 Hbel
    gi_wp2
    refine ⟨by simp, .inl ⟨_, _, rfl, run_takeDeferred hK, ?_⟩⟩
    exact ⟨_, results_none rfl _ _ _, R⟩
end Go.Proofs.Ytbcadklodjdokaa
