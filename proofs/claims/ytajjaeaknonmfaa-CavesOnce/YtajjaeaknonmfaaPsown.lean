/-
  The landed caves: grown.
  The landed caves: Seedling, sown.
-/
import Derived.Test.YtajjaeaknonmfaaPround
set_option maxRecDepth 20000
namespace Go.Proofs.Ytajjaeaknonmfaa
section
open C G Go.RowKit Go.Shelf

attribute [local go_sem] Oper.semAt_some

/-- Five blocks one behind the other. -/
theorem chain5 (w : World) (o0 o1 o2 o3 o4 : Obj) {W : World} (h : W = ((((w.alloc o0).alloc o1).alloc o2).alloc o3).alloc o4) :
    W.heap.size = w.heap.size + 5 ∧ Below w.heap.size w W ∧ W.heap[w.heap.size]? = some o0 ∧ W.heap[w.heap.size + 1]? = some o1 ∧ W.heap[w.heap.size + 1 + 1]? = some o2 ∧ W.heap[w.heap.size + 1 + 1 + 1]? = some o3 ∧ W.heap[w.heap.size + 1 + 1 + 1 + 1]? = some o4 := by
  subst h
  refine ⟨by simp, (((((Below.refl _ w).alloc (Nat.le_refl _) _).alloc (by simp) _).alloc (by simp; omega) _).alloc (by simp; omega) _).alloc (by simp; omega) _, ?_, ?_, ?_, ?_, ?_⟩
  · exact (Below.heap_alloc _ _ _ (by simp <;> omega)).trans ((Below.heap_alloc _ _ _ (by simp <;> omega)).trans ((Below.heap_alloc _ _ _ (by simp <;> omega)).trans ((Below.heap_alloc _ _ _ (by simp <;> omega)).trans (heap_alloc_new w _))))
  · have := heap_alloc_new (w.alloc o0) o1
    rw [World.size_alloc] at this
    exact (Below.heap_alloc _ _ _ (by simp <;> omega)).trans ((Below.heap_alloc _ _ _ (by simp <;> omega)).trans ((Below.heap_alloc _ _ _ (by simp <;> omega)).trans this))
  · have := heap_alloc_new ((w.alloc o0).alloc o1) o2
    simp only [World.size_alloc] at this
    exact (Below.heap_alloc _ _ _ (by simp <;> omega)).trans ((Below.heap_alloc _ _ _ (by simp <;> omega)).trans this)
  · have := heap_alloc_new (((w.alloc o0).alloc o1).alloc o2) o3
    simp only [World.size_alloc] at this
    exact (Below.heap_alloc _ _ _ (by simp <;> omega)).trans this
  · have := heap_alloc_new ((((w.alloc o0).alloc o1).alloc o2).alloc o3) o4
    simp only [World.size_alloc] at this
    exact this
/-- The cells that are open one round later. -/
def grF (d' : Int) (fo ff : Fld) : Fld := fun x y z => (inB 2 x y z && ff x y z) && decide (13 ≤ nbN (fun x y z => inB d' x y z && fo x y z) x y z 27)
def GrSay (d' d : Int) (fo ff : Fld) (w : World) (e : Ending) (w' : World) : Prop := Below w.heap.size w w' ∧ ∃ ns, e = .returned (.agg (vals ns)) ∧ FIs ns d (grF d' fo ff)
set_option maxRecDepth 100000 in
set_option maxHeartbeats 2000000 in
theorem grown_c (bo bf : Nat) (os fs : List Int) (d' d : Int) (fo ff : Fld) (w : World) (hO : Blk w bo 61 os) (hF : Blk w bf 61 fs) (hOi : FIs os d' fo) (hFi : FIs fs 2 ff) (hd : 0 ≤ d) (hd1 : d ≤ 1) :
    Calls Try.prog 31 #[.pointer (some ⟨bo, 0, none⟩), .pointer (some ⟨bf, 0, none⟩), .int .i64 d] w (GrSay d' d fo ff w) := by
  obtain ⟨Post, hPost⟩ : ∃ Post : Ending → World → Prop, Post = GrSay d' d fo ff w := ⟨_, rfl⟩
  rw [← hPost]
  have HP : Hid (∀ ns w', FIs ns d (grF d' fo ff) → Below w.heap.size w w' → Post (.returned (.agg (vals ns))) w') := fun ns w' h1 h2 => by rw [hPost]; exact ⟨h2, ns, rfl, h1⟩
  clear hPost
  have HO : Hid (Blk w bo 61 os ∧ Blk w bf 61 fs) := ⟨hO, hF⟩
  clear hO hF
  have hz := zero61
  obtain ⟨Z, hZ⟩ : ∃ Z, Z = List.replicate 10400 (0 : Int) := ⟨_, rfl⟩
  have HZ : Hid (Z = List.replicate 10400 (0 : Int)) := hZ
  rw [← hZ] at hz
  have hZl : (vals Z).size = 10400 := by rw [vals_size, hZ, List.length_replicate]
  clear hZ
  obtain ⟨V, hV⟩ : ∃ V, V = vals Z := ⟨_, rfl⟩
  rw [← hV] at hz hZl
  have HV : Hid (V = vals Z) := hV
  clear hV
  refine (callsIn_wide (n := 6)).1 ?_
  refine callsIn_of_wp_marks Try.func31 rfl trivial ?_ rfl
  simp only [Try.ntmps31, List.size_toArray, List.length_cons, List.length_nil, Nat.reduceAdd, Nat.reduceSub, Array.replicate_succ, Array.replicate_zero, List.push_toArray, List.append_toArray, List.nil_append, List.cons_append]
  gi_wp2_with (fail)
  refine ⟨trivial, ?_⟩
  refine (callsIn_wide.2 (cells_c d hd (by omega) _)).mono ?_
  rintro e w2 ⟨rfl, rfl⟩
  gi_wp2_with (fail)
  obtain ⟨W0, hW0⟩ : ∃ W0, W0 = ((((w.alloc (.cells #[.pointer (some ⟨bo, 0, none⟩)] 64)).alloc (.cells #[.pointer (some ⟨bf, 0, none⟩)] 64)).alloc (.cells V 61)).alloc (.cells V 61)).alloc (.cells #[.int .i64 (-d), .int .i64 6, .int .i64 (-d), .int .i64 (15 + d), .int .i64 29, .int .i64 (15 + d)] 95) := ⟨_, rfl⟩
  obtain ⟨hsz, hbel, h0, h1, h2, h3, h4⟩ := chain5 w _ _ _ _ _ hW0
  rw [← hW0]
  clear hW0 hz
  have hR : Blk W0 (w.heap.size + 1 + 1) 61 Z := by unfold Blk; rw [← HV.out]; exact h2
  have hN : Blk W0 (w.heap.size + 1 + 1 + 1) 61 Z := by unfold Blk; rw [← HV.out]; exact h3
  have Hsz : Hid (W0.heap.size = w.heap.size + 5) := hsz
  have Hbel : Hid (Below w.heap.size w W0) := hbel
  have HBo : Hid (Blk W0 bo 61 os ∧ Blk W0 bf 61 fs ∧ bo < w.heap.size ∧ bf < w.heap.size) := ⟨HO.out.1.below hbel HO.out.1.lt, HO.out.2.below hbel HO.out.2.lt, HO.out.1.lt, HO.out.2.lt⟩
  have H01 : Hid (W0.heap[w.heap.size]? = some (.cells #[.pointer (some ⟨bo, 0, none⟩)] 64) ∧ W0.heap[w.heap.size + 1]? = some (.cells #[.pointer (some ⟨bf, 0, none⟩)] 64)) := ⟨h0, h1⟩
  have HR : Hid (Blk W0 (w.heap.size + 1 + 1) 61 Z) := hR
  clear hsz hbel h0 h1 h2 h3 hR HO
  obtain ⟨S1, hS1⟩ : ∃ S1 : Nat, S1 = (16 + 2 * d).toNat := ⟨_, rfl⟩
  have hst := each_q 5 (by omega) (w.heap.size + 1 + 1 + 1 + 1) W0.heap.size (-d) 6 (-d) (15 + d) 29 (15 + d) S1 24 S1 (by omega) (by omega) (by omega) (by omega) (by omega) (by omega) (by omega) (by omega) (by omega) W0 (by have := Hsz.out; omega) (Nat.le_refl _) h4
  refine wpIn_rangeFunc_ownH rfl (by decide) (gf := 64) (lb := #[.pointer (some ⟨w.heap.size + 1 + 1 + 1 + 1, 0, none⟩)]) rfl trivial (enters_of Try.func64 (by kernel_rfl) rfl)
    hst (fun h k => Kp.trans h k) (fun W l o o' _ h ho _ => Kp.book W l o o' h ho) (Below.refl _ _) (fun _ => rfl)
    (fun pre W => Grows W0 (w.heap.size + 1 + 1 + 1) 61 (mkL (grF d' fo ff) (qs pre) Z) W)
    (fun _ _ _ => False)
    (grows_own W0 _ 61 _ (by have := Hsz.out; omega))
    (fun _ _ _ _ _ hs _ _ => hs)
    ⟨hN, grown_refl _ _⟩
    (fun x a' W => ∃ Bx, W.heap[Bx]? = some (.cells #[.int .i64 x.x, .int .i64 x.y, .int .i64 x.z] 24 (0, 0)) ∧ a' = { tmps := #[Value.pointer (some { block := bo, off := 0 }), Value.pointer (some { block := bf, off := 0 }), Value.int IntKind.i64 d, Value.pointer (some { block := w.heap.size, off := 0 }), Value.pointer (some { block := w.heap.size + 1, off := 0 }), undef, Value.pointer (some { block := w.heap.size + 1 + 1, off := 0 }), Value.pointer (some { block := w.heap.size + 1 + 1 + 1, off := 0 }), .pointer (some ⟨Bx, 0, none⟩), Value.int IntKind.i64 d, Value.func (Fn.func 64) #[] #[Value.pointer (some { block := w.heap.size + 1 + 1 + 1 + 1, off := 0 })], .agg #[.int .i64 x.x, .int .i64 x.y, .int .i64 x.z], undef, undef, undef, undef, undef, undef, undef, undef, undef, undef, undef, undef], defers := [] })
    (fun x a' _ X Y row hs hg hr => by
      obtain ⟨Bx, h1, h2⟩ := hs
      exact ⟨Bx, cells_kept hg hr h1, h2⟩)
    ?assign ?body ?done ?stop
  case assign =>
    rintro l pre x W K ⟨hB, hg⟩ hK
    have HX : Hid (KeepsFrom W0.heap.size W (W.alloc (.cells #[.int .i64 x.x, .int .i64 x.y, .int .i64 x.z] 24)) ∧ Kp (w.heap.size + 1 + 1 + 1 + 1) W0.heap.size W (W.alloc (.cells #[.int .i64 x.x, .int .i64 x.y, .int .i64 x.z] 24)) ∧ Grows W0 (w.heap.size + 1 + 1 + 1) 61 (mkL (grF d' fo ff) (qs pre) Z) (W.alloc (.cells #[.int .i64 x.x, .int .i64 x.y, .int .i64 x.z] 24))) :=
      ⟨(KeepsOthers.alloc _ _).from _, Kp.grow (World.grownBy_alloc W _ none), (Below.heap_alloc W _ _ hB.lt).trans hB, grown_trans hg (grown_of_below ((Below.refl _ W).alloc (Nat.le_refl _) _))⟩
    have HK : Hid (∀ a' W', _ → _ → _ → _ → K a' W') := hK
    clear hK hB hg
    gi_wp2
    exact HK.out _ _ HX.out.1 HX.out.2.1 HX.out.2.2 ⟨W.heap.size, heap_alloc_new W _, rfl⟩
  case body =>
    rintro l pre ⟨px, py, pz, hpx, hpy, hpz⟩ a' W _ _ hG ⟨Bx, hP, rfl⟩ hlt
    obtain ⟨X, hX⟩ : ∃ X : Nat, px + 2 = (X : Int) := ⟨(px + 2).toNat, by omega⟩
    obtain ⟨Y, hY⟩ : ∃ Y : Nat, py - 5 = (Y : Int) := ⟨(py - 5).toNat, by omega⟩
    obtain ⟨Zn, hZn⟩ : ∃ Zn : Nat, pz + 2 = (Zn : Int) := ⟨(pz + 2).toNat, by omega⟩
    have hin : inF px py pz := by unfold inF; omega
    have hv1 : fs.getD (Y * 400 + Zn * 20 + X) 0 = bi (inB 2 px py pz && ff px py pz) := by rw [← fpl_of hX hY hZn]; exact hFi.has _ _ _ hin
    have hnb := about_nb hOi hX hY hZn (by omega) (by omega) (by omega)
    have hgr : grF d' fo ff px py pz = ((inB 2 px py pz && ff px py pz) && decide (13 ≤ nbN (fun x y z => inB d' x y z && fo x y z) px py pz 27)) := rfl
    obtain ⟨β, hβ⟩ : ∃ β, β = (inB 2 px py pz && ff px py pz) := ⟨_, rfl⟩
    obtain ⟨N, hN⟩ : ∃ N, N = nbN (fun x y z => inB d' x y z && fo x y z) px py pz 27 := ⟨_, rfl⟩
    have hN27 : N ≤ 27 := by rw [hN]; exact nbN_le _ _ _ _ 27
    rw [← hβ] at hv1 hgr
    rw [← hN] at hnb hgr
    have HS : Hid (∀ W' cs', W.grownBy W' (some (w.heap.size + 1 + 1 + 1)) → Blk W' (w.heap.size + 1 + 1 + 1) 61 cs' → cs' = (if grF d' fo ff px py pz = true then (mkL (grF d' fo ff) (qs pre) Z).set (Y * 400 + Zn * 20 + X) 1 else mkL (grF d' fo ff) (qs pre) Z) →
        KeepsFrom W0.heap.size W W' ∧ Kp (w.heap.size + 1 + 1 + 1 + 1) W0.heap.size W W' ∧ Grows W0 (w.heap.size + 1 + 1 + 1) 61 (mkL (grF d' fo ff) (qs (pre ++ [⟨px, py, pz, hpx, hpy, hpz⟩])) Z) W') := fun W' cs' h1 h2 h3 => by
      rw [qs_snoc, mkL_snoc]
      simp only
      rw [fpl_of hX hY hZn, ← h3]
      exact round_end hG h1 h2 (by decide) (by decide)
    clear hβ hN
    rw [hgr] at HS
    clear hgr
    have hL : (mkL (grF d' fo ff) (qs pre) Z).length = 10400 := by rw [mkL_len, HZ.out, List.length_replicate]
    generalize mkL (grF d' fo ff) (qs pre) Z = M at *
    obtain ⟨hB, hg⟩ := hG
    have HM : Hid (Blk W (w.heap.size + 1 + 1 + 1) 61 M ∧ M.length = 10400) := ⟨hB, hL⟩
    have HOF : Hid (Blk W bo 61 os ∧ Blk W bf 61 fs) := ⟨grown_blk hg HBo.out.1 (by have := HBo.out.2.2.1; omega), grown_blk hg HBo.out.2.1 (by have := HBo.out.2.2.2; omega)⟩
    have c3 : W.cell? ⟨w.heap.size, 0, none⟩ = some (.pointer (some ⟨bo, 0, none⟩)) := (cell_of_row W _ 0 _ 64 (0, 0) (grown_cells hg H01.out.1 (by omega))).trans rfl
    have c4 : W.cell? ⟨w.heap.size + 1, 0, none⟩ = some (.pointer (some ⟨bf, 0, none⟩)) := (cell_of_row W _ 0 _ 64 (0, 0) (grown_cells hg H01.out.2 (by omega))).trans rfl
    have x0 : W.cell? ⟨Bx, 0, none⟩ = some (.int .i64 px) := (cell_of_row W _ 0 _ 24 (0, 0) hP).trans rfl
    have x1 : W.cell? ⟨Bx, 1, none⟩ = some (.int .i64 py) := (cell_of_row W _ 1 _ 24 (0, 0) hP).trans rfl
    have x2 : W.cell? ⟨Bx, 2, none⟩ = some (.int .i64 pz) := (cell_of_row W _ 2 _ 24 (0, 0) hP).trans rfl
    have Hnb : Hid (laysN os Y Zn X 3 - os.getD (Y * 400 + Zn * 20 + X) 0 = (N : Int)) := hnb
    have bX : 1 ≤ X ∧ X < 19 := by omega
    have bY : 1 ≤ Y ∧ Y < 25 := by omega
    have bZ : 1 ≤ Zn ∧ Zn < 19 := by omega
    have HC : Hid (Calls Try.prog 51 #[.pointer (some ⟨bf, 0, none⟩), .agg #[.int .i64 px, .int .i64 py, .int .i64 pz]] W fun e w' => e = .returned (.bool β) ∧ Below W.heap.size W w') :=
      fhas_c bf fs px py pz X Y Zn β hX hY hZn (by omega) (by omega) (by omega) W HOF.out.2 hFi.len hv1
    have HXYZ : Hid ((px + 2 = (X : Int) ∧ py - 5 = (Y : Int) ∧ pz + 2 = (Zn : Int)) ∧ (1 ≤ X ∧ X < 19) ∧ (1 ≤ Y ∧ Y < 25) ∧ (1 ≤ Zn ∧ Zn < 19)) := ⟨⟨hX, hY, hZn⟩, bX, bY, bZ⟩
    have HBx : Hid (Bx < W.heap.size) := (Array.getElem?_eq_some_iff.1 hP).1
    clear hB hg hnb hv1 hX hY hZn bX bY bZ hin hP hL hlt
    gi_wp2_with (fail)
    refine ⟨trivial, (CallsIn.inRound l (callsIn_wide.2 HC.out)).mono ?_⟩
    rintro _ w1 ⟨rfl, hb1⟩
    have HB1 : Hid (Below W.heap.size W w1) := hb1
    rcases β with _ | _
    · have HE := HS.out w1 M (grown_of_below hb1) (HM.out.1.below hb1 HM.out.1.lt) (by simp)
      have HE2 : Hid _ := HE
      clear HS HE hb1 HC
      gi_wp2
      refine ⟨trivial, ?_⟩
      gi_wp2
      exact HE2.out
    · have hOF1 : Blk w1 bo 61 os := HOF.out.1.below hb1 HOF.out.1.lt
      have c3' := cell_below c3 hb1
      have x0' := cell_below x0 hb1
      have x1' := cell_below x1 hb1
      have x2' := cell_below x2 hb1
      have HC2 : Hid (Calls Try.prog 52 #[.pointer (some ⟨bo, 0, none⟩), .agg #[.int .i64 px, .int .i64 py, .int .i64 pz]] w1 fun e w' => e = .returned (.int .i64 (N : Int)) ∧ Below w1.heap.size w1 w') := by
        obtain ⟨⟨hX, hY, hZn⟩, bX, bY, bZ⟩ := HXYZ.out
        have := about_c bo os px py pz X Y Zn hX hY hZn bX bY bZ w1 hOF1 hOi.len hOi.bits
        rwa [Hnb.out] at this
      clear hOF1 hb1 HC c3 c4 x0 x1 x2
      gi_wp2_with (fail)
      refine ⟨trivial, (CallsIn.inRound l (callsIn_wide.2 HC2.out)).mono ?_⟩
      rintro _ w3 ⟨rfl, hb3⟩
      have hb4 : Below W.heap.size W w3 := HB1.out.trans (hb3.mono HB1.out.size)
      have HB3 : Hid (Below W.heap.size W w3) := hb4
      by_cases h13 : 13 ≤ N
      · have h13' : (13 : Int) ≤ (N : Int) := by omega
        have y0 := cell_below x0' hb3
        have y1 := cell_below x1' hb3
        have y2 := cell_below x2' hb3
        have HM3 : Hid (Blk w3 (w.heap.size + 1 + 1 + 1) 61 M) := HM.out.1.below hb4 HM.out.1.lt
        have HC3 : Hid (Calls Try.prog 49 #[.pointer (some ⟨w.heap.size + 1 + 1 + 1, 0, none⟩), .agg #[.int .i64 px, .int .i64 py, .int .i64 pz]] w3 fun e w' => e = .returned (.tuple #[]) ∧ Blk w' (w.heap.size + 1 + 1 + 1) 61 (M.set (Y * 400 + Zn * 20 + X) 1) ∧ w3.grownBy w' (some (w.heap.size + 1 + 1 + 1))) := by
          obtain ⟨⟨hX, hY, hZn⟩, bX, bY, bZ⟩ := HXYZ.out
          exact mark_c _ M px py pz X Y Zn hX hY hZn (by omega) (by omega) (by omega) w3 HM3.out HM.out.2
        clear hb4 hb3 x0' x1' x2' c3'
        gi_wp2_with (fail)
        refine ⟨trivial, (CallsIn.inRound l (callsIn_wide.2 HC3.out)).mono ?_⟩
        rintro _ w4 ⟨rfl, hb5, hg5⟩
        have HE := HS.out w4 _ (grown_trans (grown_of_below HB3.out) hg5) hb5 (by simp [h13])
        have HE2 : Hid _ := HE
        clear HS HE hb5 hg5
        gi_wp2
        exact HE2.out
      · have h13' : ¬ (13 : Int) ≤ (N : Int) := by omega
        have HE := HS.out w3 M (grown_of_below hb4) (HM.out.1.below hb4 HM.out.1.lt) (by simp [h13])
        have HE2 : Hid _ := HE
        clear HS HE hb3 hb4 x0' x1' x2' c3'
        gi_wp2
        exact HE2.out
  case done =>
    rintro D ys W hD hq ⟨hB, hg⟩ hK
    have hq' : qs ys = boxD d := by rw [hq, hS1]; rfl
    have HM : Hid (FIs (mkL (grF d' fo ff) (qs ys) Z) d (grF d' fo ff)) := by rw [hq']; exact mk_is _ d hd (by omega) Z HZ.out
    generalize mkL (grF d' fo ff) (qs ys) Z = M at *
    have hRW : Blk W (w.heap.size + 1 + 1) 61 Z := grown_blk hg HR.out (by omega)
    have hZ1 : Z.length = 10400 := by rw [HZ.out, List.length_replicate]
    have hM1 := HM.out.len
    have Hg : Hid (Below w.heap.size w W) := by
      refine ⟨hg.os.trans Hbel.out.os, hg.tape.trans Hbel.out.tape, hg.output.trans Hbel.out.output, Nat.le_trans Hbel.out.size hg.size, fun k hk => ?_⟩
      exact (hg.block k (by have := Hbel.out.size; omega) (fun e => by have : k = w.heap.size + 1 + 1 + 1 := (by simpa using e); omega)).trans (Hbel.out.block k hk)
    clear hg
    gi_wp2_with (first | (refine wpListIn_load_fld rfl _ rfl (w.heap.size + 1 + 1 + 1) rfl M hB hM1 ?_) | (refine wpListIn_store_fld rfl _ _ rfl (w.heap.size + 1 + 1) M Z rfl rfl hRW hM1 hZ1 ?_))
    have hD1 : (W.setRow (w.heap.size + 1 + 1) (vals M)).heap[D]? = some (.deferred (some [])) := (setRow_other W _ D _ (by have := Hsz.out; omega)).trans hK
    have hR2 : Blk ((W.setRow (w.heap.size + 1 + 1) (vals M)).putObj D (.deferred none)) (w.heap.size + 1 + 1) 61 M := ((grownBy_putObj' _ D _).block _ (by simp; have := hRW.lt; omega) (fun e => by have : w.heap.size + 1 + 1 = D := (by simpa using e); have := Hsz.out; omega)).trans (blk_row hRW)
    refine ⟨by simp, .inl ⟨_, _, rfl, run_takeDeferred hD1, ?_⟩⟩
    exact ⟨_, results_cell_row rfl _ _ (w.heap.size + 1 + 1) 61 _ (0, 0) _ rfl hR2 Try.underlying61 rfl (info61 (by rw [vals_size, hM1])), HP.out M _ HM.out (Hg.out.trans ((below_row (Below.refl _ W) (by omega) _).trans (belowK_b (w := w) (Nat.le_refl _) (W.setRow (w.heap.size + 1 + 1) (vals M)) D _ (.deferred none) (by have := Hsz.out; omega) hD1 rfl rfl)))⟩
  case stop =>
    rintro D c pre W _ _ h _
    exact h.elim
end
section
open C G Go.RowKit Go.Shelf

theorem seed_c (S : Nat) (X Y Z : Int) (w : World) (hS : S < 18446744073709551616) :
    Calls Try.prog 9 #[.int .u64 S, .agg #[.int .i64 X, .int .i64 Y, .int .i64 Z]] w fun e w' => e = .returned (.bool (sdN S X Y Z)) ∧ Below w.heap.size w w' := by
  have Hb : Hid (Below w.heap.size w (w.alloc (.cells #[.int .i64 X, .int .i64 Y, .int .i64 Z] 24))) := (Below.refl _ _).alloc (Nat.le_refl _) _
  have hh := fun w => R.hash_any S 20 X Y Z w hS
  have hlt := R.hashN_lt S 20 X Y Z
  have hd : sdN S X Y Z = decide (R.belowN (R.hashN S 20 X Y Z) 100 < 46) := rfl
  rw [hd]
  clear hd
  generalize R.hashN S 20 X Y Z = h at *
  have hb := fun w => R.below_any h 100 w hlt (by omega)
  generalize R.belowN h 100 = v at *
  go_enter Try.func9, Try.ntmps9
  go_wp2_with fail
  refine (hh _).mono ?_
  rintro _ w1 ⟨rfl, hw⟩
  replace hw := hw.symm
  subst hw
  clear hh
  go_wp2_with fail
  refine (hb _).mono ?_
  rintro _ w2 ⟨rfl, hw⟩
  replace hw := hw.symm
  subst hw
  clear hb
  go_wp2
  go_ret
  exact ⟨rfl, Hb.out⟩

attribute [local go_sem] Oper.semAt_some

theorem chain2 (w : World) (o0 o1 : Obj) {W : World} (h : W = (w.alloc o0).alloc o1) : W.heap.size = w.heap.size + 2 ∧ Below w.heap.size w W ∧ W.heap[w.heap.size]? = some o0 ∧ W.heap[w.heap.size + 1]? = some o1 := by
  subst h
  exact ⟨by simp, below_two w _ _, (Below.heap_alloc _ _ _ (by simp)).trans (heap_alloc_new w _), new_two w _ _⟩
/-- The cells that are open at first. -/
def soF (S : Nat) (cx cz : Int) (ff : Fld) : Fld := fun x y z => (inB 2 x y z && ff x y z) && sdN S (cx * 16 + x) y (cz * 16 + z)
def SoSay (S : Nat) (cx cz : Int) (ff : Fld) (w : World) (e : Ending) (w' : World) : Prop := Below w.heap.size w w' ∧ ∃ ns, e = .returned (.agg (vals ns)) ∧ FIs ns 2 (soF S cx cz ff)
set_option maxRecDepth 100000 in
set_option maxHeartbeats 2000000 in
theorem sown_c (S : Nat) (cx cz : Int) (bf : Nat) (fs : List Int) (ff : Fld) (w : World) (hS : S < 18446744073709551616) (hcx : Far 1073741824 cx) (hcz : Far 1073741824 cz) (hF : Blk w bf 61 fs) (hFi : FIs fs 2 ff) :
    Calls Try.prog 30 #[.int .u64 S, .agg #[.int .i64 cx, .int .i64 cz], .pointer (some ⟨bf, 0, none⟩)] w (SoSay S cx cz ff w) := by
  obtain ⟨Post, hPost⟩ : ∃ Post : Ending → World → Prop, Post = SoSay S cx cz ff w := ⟨_, rfl⟩
  rw [← hPost]
  have HP : Hid (∀ ns w', FIs ns 2 (soF S cx cz ff) → Below w.heap.size w w' → Post (.returned (.agg (vals ns))) w') := fun ns w' h1 h2 => by rw [hPost]; exact ⟨h2, ns, rfl, h1⟩
  clear hPost
  obtain ⟨u0, u1⟩ := hcx
  obtain ⟨v0, v1⟩ := hcz
  have HO : Hid (Blk w bf 61 fs) := hF
  clear hF
  have hz := zero61
  obtain ⟨Z, hZ⟩ : ∃ Z, Z = List.replicate 10400 (0 : Int) := ⟨_, rfl⟩
  have HZ : Hid (Z = List.replicate 10400 (0 : Int)) := hZ
  rw [← hZ] at hz
  have hZl : (vals Z).size = 10400 := by rw [vals_size, hZ, List.length_replicate]
  clear hZ
  obtain ⟨V, hV⟩ : ∃ V, V = vals Z := ⟨_, rfl⟩
  rw [← hV] at hz hZl
  have HV : Hid (V = vals Z) := hV
  clear hV
  obtain ⟨A, hA⟩ : ∃ A, A = cx * 16 := ⟨_, rfl⟩
  obtain ⟨B, hB⟩ : ∃ B, B = cz * 16 := ⟨_, rfl⟩
  have hcell : ∀ w, Calls Try.prog 50 #[.agg #[.int .i64 cx, .int .i64 cz], .int .i64 0] w fun e w' => e = .returned (.agg #[.int .i64 A, .int .i64 0, .int .i64 B]) ∧ Below w.heap.size w w' := fun w => by
    have := G.cell_c cx cz 0 w
    rwa [show cellX cx 0 = A by unfold cellX; rw [if_pos (by omega)]; unfold wrap64; omega, show cellZ cz 0 = B by unfold cellZ; rw [if_pos (by omega)]; unfold wrap64; omega, show cellY 0 = 0 by rfl] at this
  have HAB : Hid (A = cx * 16 ∧ B = cz * 16) := ⟨hA, hB⟩
  have bA : -17179869184 ≤ A ∧ A ≤ 17179869184 := by omega
  have bB : -17179869184 ≤ B ∧ B ≤ 17179869184 := by omega
  obtain ⟨a0, a1⟩ := bA
  obtain ⟨b0, b1⟩ := bB
  clear hA hB
  refine (callsIn_wide (n := 6)).1 ?_
  refine callsIn_of_wp_marks Try.func30 rfl trivial ?_ rfl
  simp only [Try.ntmps30, List.size_toArray, List.length_cons, List.length_nil, Nat.reduceAdd, Nat.reduceSub, Array.replicate_succ, Array.replicate_zero, List.push_toArray, List.append_toArray, List.nil_append, List.cons_append]
  gi_wp2_with (fail)
  refine ⟨trivial, ?_⟩
  refine (callsIn_wide.2 (hcell _)).mono ?_
  rintro e w1 ⟨rfl, hb1⟩
  obtain ⟨Wa, hWa⟩ : ∃ Wa, Wa = ((((w.alloc (.cells #[.int .u64 (S : Int)] 22)).alloc (.cells #[.int .i64 cx, .int .i64 cz] 28)).alloc (.cells #[.pointer (some ⟨bf, 0, none⟩)] 64)).alloc (.cells V 61)).alloc (.cells V 61) := ⟨_, rfl⟩
  obtain ⟨hsa, hba, h0, h1, h2, h3, h4⟩ := chain5 w _ _ _ _ _ hWa
  rw [← hWa] at hb1
  have hs1 : w.heap.size + 5 ≤ w1.heap.size := by have := hb1.size; omega
  have Hw : Hid (Below w.heap.size w w1 ∧ w1.heap[w.heap.size]? = some (.cells #[.int .u64 (S : Int)] 22) ∧ w1.heap[w.heap.size + 1 + 1]? = some (.cells #[.pointer (some ⟨bf, 0, none⟩)] 64) ∧ Blk w1 (w.heap.size + 1 + 1 + 1) 61 Z ∧ Blk w1 (w.heap.size + 1 + 1 + 1 + 1) 61 Z) := by
    refine ⟨hba.trans (hb1.mono (by omega)), (hb1.block _ (by omega)).trans h0, (hb1.block _ (by omega)).trans h2, ?_, ?_⟩
    · unfold Blk; rw [← HV.out]; exact (hb1.block _ (by omega)).trans h3
    · unfold Blk; rw [← HV.out]; exact (hb1.block _ (by omega)).trans h4
  clear hb1 hba hsa h0 h1 h2 h3 h4 hWa Wa hcell
  gi_wp2_with (fail)
  refine ⟨trivial, ?_⟩
  refine (callsIn_wide.2 (cells_c 2 (by omega) (by omega) _)).mono ?_
  rintro e w2 ⟨rfl, rfl⟩
  gi_wp2_with (fail)
  obtain ⟨W0, hW0⟩ : ∃ W0, W0 = (w1.alloc (.cells #[.int .i64 A, .int .i64 0, .int .i64 B] 24)).alloc (.cells #[.int .i64 (-2), .int .i64 6, .int .i64 (-2), .int .i64 17, .int .i64 29, .int .i64 17] 95) := ⟨_, rfl⟩
  obtain ⟨hsz, hbel, h0, h4⟩ := chain2 w1 _ _ hW0
  rw [← hW0]
  clear hW0 hz
  have Hsz : Hid (W0.heap.size = w1.heap.size + 2) := hsz
  have Hs1 : Hid (w.heap.size + 5 ≤ w1.heap.size) := hs1
  have Hbel : Hid (Below w.heap.size w W0) := Hw.out.1.trans (hbel.mono (by omega))
  have HR : Hid (Blk W0 (w.heap.size + 1 + 1 + 1) 61 Z) := Hw.out.2.2.2.1.below hbel (by omega)
  have hN : Blk W0 (w.heap.size + 1 + 1 + 1 + 1) 61 Z := Hw.out.2.2.2.2.below hbel (by omega)
  have HBo : Hid (Blk W0 bf 61 fs ∧ bf < w.heap.size) := ⟨HO.out.below Hbel.out HO.out.lt, HO.out.lt⟩
  have H01 : Hid (W0.heap[w.heap.size]? = some (.cells #[.int .u64 (S : Int)] 22) ∧ W0.heap[w.heap.size + 1 + 1]? = some (.cells #[.pointer (some ⟨bf, 0, none⟩)] 64) ∧ W0.heap[w1.heap.size]? = some (.cells #[.int .i64 A, .int .i64 0, .int .i64 B] 24)) := ⟨(hbel.block _ (by omega)).trans Hw.out.2.1, (hbel.block _ (by omega)).trans Hw.out.2.2.1, h0⟩
  clear hsz hbel h0 HO Hw hs1
  have hst := each_q 5 (by omega) (w1.heap.size + 1) W0.heap.size (-2) 6 (-2) 17 29 17 20 24 20 (by omega) (by omega) (by omega) (by omega) (by omega) (by omega) (by omega) (by omega) (by omega) W0 (by have := Hsz.out; omega) (Nat.le_refl _) h4
  refine wpIn_rangeFunc_ownH rfl (by decide) (gf := 64) (lb := #[.pointer (some ⟨w1.heap.size + 1, 0, none⟩)]) rfl trivial (enters_of Try.func64 (by kernel_rfl) rfl)
    hst (fun h k => Kp.trans h k) (fun W l o o' _ h ho _ => Kp.book W l o o' h ho) (Below.refl _ _) (fun _ => rfl)
    (fun pre W => Grows W0 (w.heap.size + 1 + 1 + 1 + 1) 61 (mkL (soF S cx cz ff) (qs pre) Z) W)
    (fun _ _ _ => False)
    (grows_own W0 _ 61 _ (by have := Hsz.out; have := Hs1.out; omega))
    (fun _ _ _ _ _ hs _ _ => hs)
    ⟨hN, grown_refl _ _⟩
    (fun x a' W => ∃ Bx, W.heap[Bx]? = some (.cells #[.int .i64 x.x, .int .i64 x.y, .int .i64 x.z] 24 (0, 0)) ∧ a' = { tmps := #[Value.int IntKind.u64 (S : Int), Value.agg #[Value.int IntKind.i64 cx, Value.int IntKind.i64 cz], Value.pointer (some { block := bf, off := 0 }), Value.pointer (some { block := w.heap.size, off := 0 }), Value.pointer (some { block := w.heap.size + 1, off := 0 }), Value.pointer (some { block := w.heap.size + 1 + 1, off := 0 }), Value.pointer (some { block := w.heap.size + 1 + 1 + 1, off := 0 }), Value.pointer (some { block := w.heap.size + 1 + 1 + 1 + 1, off := 0 }), Value.pointer (some { block := w1.heap.size, off := 0 }), .pointer (some ⟨Bx, 0, none⟩), undef, Value.agg #[Value.int IntKind.i64 cx, Value.int IntKind.i64 cz], Value.agg #[Value.int IntKind.i64 A, Value.int IntKind.i64 0, Value.int IntKind.i64 B], Value.func (Fn.func 64) #[] #[Value.pointer (some { block := w1.heap.size + 1, off := 0 })], .agg #[.int .i64 x.x, .int .i64 x.y, .int .i64 x.z], undef, undef, undef, undef, undef, undef, undef, undef, undef, undef, undef, undef, undef, undef, undef, undef, undef, undef, undef, undef, undef, undef, undef, undef], defers := [] })
    (fun x a' _ X Y row hs hg hr => by
      obtain ⟨Bx, h1, h2⟩ := hs
      exact ⟨Bx, cells_kept hg hr h1, h2⟩)
    ?assign ?body ?done ?stop
  case assign =>
    rintro l pre x W K ⟨hB, hg⟩ hK
    have HX : Hid (KeepsFrom W0.heap.size W (W.alloc (.cells #[.int .i64 x.x, .int .i64 x.y, .int .i64 x.z] 24)) ∧ Kp (w1.heap.size + 1) W0.heap.size W (W.alloc (.cells #[.int .i64 x.x, .int .i64 x.y, .int .i64 x.z] 24)) ∧ Grows W0 (w.heap.size + 1 + 1 + 1 + 1) 61 (mkL (soF S cx cz ff) (qs pre) Z) (W.alloc (.cells #[.int .i64 x.x, .int .i64 x.y, .int .i64 x.z] 24))) :=
      ⟨(KeepsOthers.alloc _ _).from _, Kp.grow (World.grownBy_alloc W _ none), (Below.heap_alloc W _ _ hB.lt).trans hB, grown_trans hg (grown_of_below ((Below.refl _ W).alloc (Nat.le_refl _) _))⟩
    have HK : Hid (∀ a' W', _ → _ → _ → _ → K a' W') := hK
    clear hK hB hg
    gi_wp2
    exact HK.out _ _ HX.out.1 HX.out.2.1 HX.out.2.2 ⟨W.heap.size, heap_alloc_new W _, rfl⟩
  case body =>
    rintro l pre ⟨px, py, pz, hpx, hpy, hpz⟩ a' W _ _ hG ⟨Bx, hP, rfl⟩ hlt
    obtain ⟨X, hX⟩ : ∃ X : Nat, px + 2 = (X : Int) := ⟨(px + 2).toNat, by omega⟩
    obtain ⟨Y, hY⟩ : ∃ Y : Nat, py - 5 = (Y : Int) := ⟨(py - 5).toNat, by omega⟩
    obtain ⟨Zn, hZn⟩ : ∃ Zn : Nat, pz + 2 = (Zn : Int) := ⟨(pz + 2).toNat, by omega⟩
    have hin : inF px py pz := by unfold inF; omega
    have hv1 : fs.getD (Y * 400 + Zn * 20 + X) 0 = bi (inB 2 px py pz && ff px py pz) := by rw [← fpl_of hX hY hZn]; exact hFi.has _ _ _ hin
    have hgr : soF S cx cz ff px py pz = ((inB 2 px py pz && ff px py pz) && sdN S (A + px) py (B + pz)) := by rw [HAB.out.1, HAB.out.2]; rfl
    obtain ⟨β, hβ⟩ : ∃ β, β = (inB 2 px py pz && ff px py pz) := ⟨_, rfl⟩
    have hsd := fun w => seed_c S (A + px) py (B + pz) w hS
    obtain ⟨γ, hγ⟩ : ∃ γ, γ = sdN S (A + px) py (B + pz) := ⟨_, rfl⟩
    rw [← hβ] at hv1 hgr
    rw [← hγ] at hsd hgr
    have HS : Hid (∀ W' cs', W.grownBy W' (some (w.heap.size + 1 + 1 + 1 + 1)) → Blk W' (w.heap.size + 1 + 1 + 1 + 1) 61 cs' → cs' = (if soF S cx cz ff px py pz = true then (mkL (soF S cx cz ff) (qs pre) Z).set (Y * 400 + Zn * 20 + X) 1 else mkL (soF S cx cz ff) (qs pre) Z) →
        KeepsFrom W0.heap.size W W' ∧ Kp (w1.heap.size + 1) W0.heap.size W W' ∧ Grows W0 (w.heap.size + 1 + 1 + 1 + 1) 61 (mkL (soF S cx cz ff) (qs (pre ++ [⟨px, py, pz, hpx, hpy, hpz⟩])) Z) W') := fun W' cs' h1 h2 h3 => by
      rw [qs_snoc, mkL_snoc]
      simp only
      rw [fpl_of hX hY hZn, ← h3]
      exact round_end hG h1 h2 (by decide) (by decide)
    clear hβ hγ
    rw [hgr] at HS
    clear hgr
    have hL : (mkL (soF S cx cz ff) (qs pre) Z).length = 10400 := by rw [mkL_len, HZ.out, List.length_replicate]
    generalize mkL (soF S cx cz ff) (qs pre) Z = M at *
    obtain ⟨hB, hg⟩ := hG
    have HM : Hid (Blk W (w.heap.size + 1 + 1 + 1 + 1) 61 M ∧ M.length = 10400) := ⟨hB, hL⟩
    have HOF : Hid (Blk W bf 61 fs) := grown_blk hg HBo.out.1 (by have := HBo.out.2; omega)
    have c3 : W.cell? ⟨w.heap.size, 0, none⟩ = some (.int .u64 (S : Int)) := (cell_of_row W _ 0 _ 22 (0, 0) (grown_cells hg H01.out.1 (by omega))).trans rfl
    have c5 : W.cell? ⟨w.heap.size + 1 + 1, 0, none⟩ = some (.pointer (some ⟨bf, 0, none⟩)) := (cell_of_row W _ 0 _ 64 (0, 0) (grown_cells hg H01.out.2.1 (by omega))).trans rfl
    have d0 : W.cell? ⟨w1.heap.size, 0, none⟩ = some (.int .i64 A) := (cell_of_row W _ 0 _ 24 (0, 0) (grown_cells hg H01.out.2.2 (by have := Hs1.out; omega))).trans rfl
    have d2 : W.cell? ⟨w1.heap.size, 2, none⟩ = some (.int .i64 B) := (cell_of_row W _ 2 _ 24 (0, 0) (grown_cells hg H01.out.2.2 (by have := Hs1.out; omega))).trans rfl
    have x0 : W.cell? ⟨Bx, 0, none⟩ = some (.int .i64 px) := (cell_of_row W _ 0 _ 24 (0, 0) hP).trans rfl
    have x1 : W.cell? ⟨Bx, 1, none⟩ = some (.int .i64 py) := (cell_of_row W _ 1 _ 24 (0, 0) hP).trans rfl
    have x2 : W.cell? ⟨Bx, 2, none⟩ = some (.int .i64 pz) := (cell_of_row W _ 2 _ 24 (0, 0) hP).trans rfl
    have HC : Hid (∀ W1, Below W.heap.size W W1 → Calls Try.prog 51 #[.pointer (some ⟨bf, 0, none⟩), .agg #[.int .i64 px, .int .i64 py, .int .i64 pz]] W1 fun e w' => e = .returned (.bool β) ∧ Below W1.heap.size W1 w') := fun W1 hb =>
      fhas_c bf fs px py pz X Y Zn β hX hY hZn (by omega) (by omega) (by omega) W1 (HOF.out.below hb HOF.out.lt) hFi.len hv1
    have HM2 : Hid (∀ W1, Below W.heap.size W W1 → Calls Try.prog 49 #[.pointer (some ⟨w.heap.size + 1 + 1 + 1 + 1, 0, none⟩), .agg #[.int .i64 px, .int .i64 py, .int .i64 pz]] W1 fun e w' => e = .returned (.tuple #[]) ∧ Blk w' (w.heap.size + 1 + 1 + 1 + 1) 61 (M.set (Y * 400 + Zn * 20 + X) 1) ∧ W1.grownBy w' (some (w.heap.size + 1 + 1 + 1 + 1))) := fun W1 hb =>
      mark_c _ M px py pz X Y Zn hX hY hZn (by omega) (by omega) (by omega) W1 (HM.out.1.below hb HM.out.1.lt) HM.out.2
    have Hsd : Hid (∀ w, _) := hsd
    have HBa : Hid (Below W.heap.size W (W.alloc (.cells #[.int .i64 (A + px), .int .i64 py, .int .i64 (B + pz)] 24))) := (Below.refl _ W).alloc (Nat.le_refl _) _
    have Hnew : Hid ((W.alloc (.cells #[.int .i64 (A + px), .int .i64 py, .int .i64 (B + pz)] 24)).heap[W.heap.size]? = some (.cells #[.int .i64 (A + px), .int .i64 py, .int .i64 (B + pz)] 24)) := heap_alloc_new W _
    have Hcs : Hid (W.cell? ⟨Bx, 0, none⟩ = some (.int .i64 px) ∧ W.cell? ⟨Bx, 1, none⟩ = some (.int .i64 py) ∧ W.cell? ⟨Bx, 2, none⟩ = some (.int .i64 pz) ∧ W.cell? ⟨w.heap.size, 0, none⟩ = some (.int .u64 (S : Int))) := ⟨x0, x1, x2, c3⟩
    have q5 := cell_below c5 HBa.out
    have q0 := cell_below x0 HBa.out
    have q1 := cell_below x1 HBa.out
    have q2 := cell_below x2 HBa.out
    clear hB hg hv1 hX hY hZn hin hP hL hlt hsd c3 c5
    obtain ⟨px0, px1⟩ := hpx
    obtain ⟨py0, py1⟩ := hpy
    obtain ⟨pz0, pz1⟩ := hpz
    gi_wp2_with (fail)
    refine ⟨trivial, (CallsIn.inRound l (callsIn_wide.2 (HC.out _ HBa.out))).mono ?_⟩
    rintro _ w3 ⟨rfl, hb3⟩
    have hb4 : Below W.heap.size W w3 := HBa.out.trans (hb3.mono HBa.out.size)
    have HB3 : Hid (Below W.heap.size W w3) := hb4
    rcases β with _ | _
    · have HE := HS.out w3 M (grown_of_below hb4) (HM.out.1.below hb4 HM.out.1.lt) (by simp)
      have HE2 : Hid _ := HE
      clear HS HE hb3 hb4 HC
      gi_wp2
      refine ⟨trivial, ?_⟩
      gi_wp2
      exact HE2.out
    · have hn3 := (hb3.block W.heap.size (by simp)).trans Hnew.out
      have n0 : w3.cell? ⟨W.heap.size, 0, none⟩ = some (.int .i64 (A + px)) := (cell_of_row w3 _ 0 _ 24 (0, 0) hn3).trans rfl
      have n1 : w3.cell? ⟨W.heap.size, 1, none⟩ = some (.int .i64 py) := (cell_of_row w3 _ 1 _ 24 (0, 0) hn3).trans rfl
      have n2 : w3.cell? ⟨W.heap.size, 2, none⟩ = some (.int .i64 (B + pz)) := (cell_of_row w3 _ 2 _ 24 (0, 0) hn3).trans rfl
      have s3 := cell_below Hcs.out.2.2.2 hb4
      clear hn3 hb3 hb4 HC x0 x1 x2 q5 q0 q1 q2 d0 d2
      gi_wp2_with (fail)
      refine ⟨trivial, (CallsIn.inRound l (callsIn_wide.2 (Hsd.out _))).mono ?_⟩
      rintro _ w4 ⟨rfl, hb5⟩
      have hb6 : Below W.heap.size W w4 := HB3.out.trans (hb5.mono HB3.out.size)
      have HB4 : Hid (Below W.heap.size W w4) := hb6
      rcases γ with _ | _
      · have HE := HS.out w4 M (grown_of_below hb6) (HM.out.1.below hb6 HM.out.1.lt) (by simp)
        have HE2 : Hid _ := HE
        clear HS HE hb5 hb6 n0 n1 n2 s3
        gi_wp2
        exact HE2.out
      · have y0 := cell_below Hcs.out.1 hb6
        have y1 := cell_below Hcs.out.2.1 hb6
        have y2 := cell_below Hcs.out.2.2.1 hb6
        clear hb5 hb6 n0 n1 n2 s3
        gi_wp2_with (fail)
        refine ⟨trivial, (CallsIn.inRound l (callsIn_wide.2 (HM2.out _ HB4.out))).mono ?_⟩
        rintro _ w5 ⟨rfl, hb7, hg7⟩
        have HE := HS.out w5 _ (grown_trans (grown_of_below HB4.out) hg7) hb7 (by simp)
        have HE2 : Hid _ := HE
        clear HS HE hb7 hg7
        gi_wp2
        exact HE2.out
  case done =>
    rintro D ys W hD hq ⟨hB, hg⟩ hK
    have hq' : qs ys = boxD 2 := by rw [hq]; rfl
    have HM : Hid (FIs (mkL (soF S cx cz ff) (qs ys) Z) 2 (soF S cx cz ff)) := by rw [hq']; exact mk_is _ 2 (by omega) (by omega) Z HZ.out
    generalize mkL (soF S cx cz ff) (qs ys) Z = M at *
    have hRW : Blk W (w.heap.size + 1 + 1 + 1) 61 Z := grown_blk hg HR.out (by omega)
    have hZ1 : Z.length = 10400 := by rw [HZ.out, List.length_replicate]
    have hM1 := HM.out.len
    have Hg : Hid (Below w.heap.size w W) := by
      refine ⟨hg.os.trans Hbel.out.os, hg.tape.trans Hbel.out.tape, hg.output.trans Hbel.out.output, Nat.le_trans Hbel.out.size hg.size, fun k hk => ?_⟩
      exact (hg.block k (by have := Hbel.out.size; omega) (fun e => by have : k = w.heap.size + 1 + 1 + 1 + 1 := (by simpa using e); omega)).trans (Hbel.out.block k hk)
    clear hg
    gi_wp2_with (first | (refine wpListIn_load_fld rfl _ rfl (w.heap.size + 1 + 1 + 1 + 1) rfl M hB hM1 ?_) | (refine wpListIn_store_fld rfl _ _ rfl (w.heap.size + 1 + 1 + 1) M Z rfl rfl hRW hM1 hZ1 ?_))
    have hD1 : (W.setRow (w.heap.size + 1 + 1 + 1) (vals M)).heap[D]? = some (.deferred (some [])) := (setRow_other W _ D _ (by have := Hsz.out; have := Hs1.out; omega)).trans hK
    have hR2 : Blk ((W.setRow (w.heap.size + 1 + 1 + 1) (vals M)).putObj D (.deferred none)) (w.heap.size + 1 + 1 + 1) 61 M := ((grownBy_putObj' _ D _).block _ (by simp; have := hRW.lt; omega) (fun e => by have : w.heap.size + 1 + 1 + 1 = D := (by simpa using e); have := Hsz.out; have := Hs1.out; omega)).trans (blk_row hRW)
    refine ⟨by simp, .inl ⟨_, _, rfl, run_takeDeferred hD1, ?_⟩⟩
    exact ⟨_, results_cell_row rfl _ _ (w.heap.size + 1 + 1 + 1) 61 _ (0, 0) _ rfl hR2 Try.underlying61 rfl (info61 (by rw [vals_size, hM1])), HP.out M _ HM.out (Hg.out.trans ((below_row (Below.refl _ W) (by omega) _).trans (belowK_b (w := w) (Nat.le_refl _) (W.setRow (w.heap.size + 1 + 1 + 1) (vals M)) D _ (.deferred none) (by have := Hsz.out; have := Hs1.out; omega) hD1 rfl rfl)))⟩
  case stop =>
    rintro D c pre W _ _ h _
    exact h.elim
end
end Go.Proofs.Ytajjaeaknonmfaa
