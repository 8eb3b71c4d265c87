/-
  The landed caves: stony.
  The landed caves: hollow.
-/
import Derived.Test.YtajjaeaknonmfaaPround
set_option maxRecDepth 20000
namespace Go.Proofs.Ytajjaeaknonmfaa
section
open C G Go.RowKit Go.Shelf

attribute [local go_sem] Oper.semAt_some

/-- Four blocks one behind the other. -/
theorem chain4 (w : World) (o0 o1 o2 o3 : Obj) {W : World} (h : W = (((w.alloc o0).alloc o1).alloc o2).alloc o3) :
    W.heap.size = w.heap.size + 4 ∧ Below w.heap.size w W ∧ W.heap[w.heap.size]? = some o0 ∧ W.heap[w.heap.size + 1]? = some o1 ∧ W.heap[w.heap.size + 1 + 1]? = some o2 ∧ W.heap[w.heap.size + 1 + 1 + 1]? = some o3 := by
  subst h
  refine ⟨by simp, ((((Below.refl _ w).alloc (Nat.le_refl _) _).alloc (by simp) _).alloc (by simp; omega) _).alloc (by simp; omega) _, ?_, ?_, ?_, ?_⟩
  · exact (Below.heap_alloc _ _ _ (by simp <;> omega)).trans ((Below.heap_alloc _ _ _ (by simp <;> omega)).trans ((Below.heap_alloc _ _ _ (by simp <;> omega)).trans (heap_alloc_new w _)))
  · have := heap_alloc_new (w.alloc o0) o1
    rw [World.size_alloc] at this
    exact (Below.heap_alloc _ _ _ (by simp <;> omega)).trans ((Below.heap_alloc _ _ _ (by simp <;> omega)).trans this)
  · have := heap_alloc_new ((w.alloc o0).alloc o1) o2
    simp only [World.size_alloc] at this
    exact (Below.heap_alloc _ _ _ (by simp <;> omega)).trans this
  · have := heap_alloc_new (((w.alloc o0).alloc o1).alloc o2) o3
    simp only [World.size_alloc] at this
    exact this
/-- The cells that are stone. -/
def stF (css : List (List Int)) : Fld := fun x y z => decide (cellN css x y z = 1)
theorem cell_got {css : List (List Int)} {px py pz : Int} {K : Nat} (hK : (K : Int) = 4 + 3 * (pz / 16) + px / 16) (hy : 6 ≤ py ∧ py ≤ 29) : getC (css.getD K []) (indexN px py pz) = cellN css px py pz := by
  unfold getC indexN cellN
  rw [if_pos (show 0 ≤ py ∧ py ≤ 127 by omega), if_pos (by omega), show ((pz + 16) / 16 * 3 + (px + 16) / 16).toNat = K by omega, show (pz + 16) % 16 = pz % 16 by omega, show (px + 16) % 16 = px % 16 by omega]
def StSay (css : List (List Int)) (w : World) (e : Ending) (w' : World) : Prop := Below w.heap.size w w' ∧ ∃ ns, e = .returned (.agg (vals ns)) ∧ FIs ns 2 (stF css)
set_option maxRecDepth 100000 in
set_option maxHeartbeats 2000000 in
theorem stony_c (a : Option Addr) (nc : Nat) (g : Nat → Nat) (css : List (List Int)) (w : World) (hN9 : N9 w a g css) :
    Calls Try.prog 29 #[.slice a 9 nc] w (StSay css w) := by
  obtain ⟨Post, hPost⟩ : ∃ Post : Ending → World → Prop, Post = StSay css w := ⟨_, rfl⟩
  rw [← hPost]
  have HP : Hid (∀ ns w', FIs ns 2 (stF css) → Below w.heap.size w w' → Post (.returned (.agg (vals ns))) w') := fun ns w' h1 h2 => by rw [hPost]; exact ⟨h2, ns, rfl, h1⟩
  clear hPost
  obtain ⟨nb, no, rfl, hrow⟩ := hN9.row
  have HN : Hid (N9 w (some ⟨nb, no, none⟩) g css ∧ ∀ i, i < 9 → w.cell? ⟨nb, no + i, none⟩ = some (.pointer (some ⟨g i, 0, none⟩))) := ⟨hN9, hrow⟩
  clear hN9 hrow
  have hz := zero61
  obtain ⟨Z, hZ⟩ : ∃ Z, Z = List.replicate 10400 (0 : Int) := ⟨_, rfl⟩
  have HZ : Hid (Z = List.replicate 10400 (0 : Int)) := hZ
  rw [← hZ] at hz
  have hZl : (vals Z).size = 10400 := by rw [vals_size, hZ, List.length_replicate]
  clear hZ
  obtain ⟨V, hV⟩ : ∃ V, V = vals Z := ⟨_, rfl⟩
  rw [← hV] at hz hZl
  have HV : Hid (V = vals Z) := hV
  clear hV
  refine (callsIn_wide (n := 6)).1 ?_
  refine callsIn_of_wp_marks Try.func29 rfl trivial ?_ rfl
  simp only [Try.ntmps29, List.size_toArray, List.length_cons, List.length_nil, Nat.reduceAdd, Nat.reduceSub, Array.replicate_succ, Array.replicate_zero, List.push_toArray, List.append_toArray, List.nil_append, List.cons_append]
  gi_wp2_with (fail)
  refine ⟨trivial, ?_⟩
  refine (callsIn_wide.2 (cells_c 2 (by omega) (by omega) _)).mono ?_
  rintro e w2 ⟨rfl, rfl⟩
  gi_wp2_with (fail)
  obtain ⟨W0, hW0⟩ : ∃ W0, W0 = (((w.alloc (.cells #[.slice (some ⟨nb, no, none⟩) 9 nc] 32)).alloc (.cells V 61)).alloc (.cells V 61)).alloc (.cells #[.int .i64 (-2), .int .i64 6, .int .i64 (-2), .int .i64 17, .int .i64 29, .int .i64 17] 95) := ⟨_, rfl⟩
  obtain ⟨hsz, hbel, h0, h1, h2, h4⟩ := chain4 w _ _ _ _ hW0
  rw [← hW0]
  clear hW0 hz
  have Hsz : Hid (W0.heap.size = w.heap.size + 4) := hsz
  have Hbel : Hid (Below w.heap.size w W0) := hbel
  have HR : Hid (Blk W0 (w.heap.size + 1) 61 Z) := by show Blk _ _ _ _; unfold Blk; rw [← HV.out]; exact h1
  have hN : Blk W0 (w.heap.size + 1 + 1) 61 Z := by unfold Blk; rw [← HV.out]; exact h2
  have H0 : Hid (W0.heap[w.heap.size]? = some (.cells #[.slice (some ⟨nb, no, none⟩) 9 nc] 32)) := h0
  clear hsz hbel h0 h1 h2
  have hst := each_q 5 (by omega) (w.heap.size + 1 + 1 + 1) W0.heap.size (-2) 6 (-2) 17 29 17 20 24 20 (by omega) (by omega) (by omega) (by omega) (by omega) (by omega) (by omega) (by omega) (by omega) W0 (by have := Hsz.out; omega) (Nat.le_refl _) h4
  refine wpIn_rangeFunc_ownH rfl (by decide) (gf := 64) (lb := #[.pointer (some ⟨w.heap.size + 1 + 1 + 1, 0, none⟩)]) rfl trivial (enters_of Try.func64 (by kernel_rfl) rfl)
    hst (fun h k => Kp.trans h k) (fun W l o o' _ h ho _ => Kp.book W l o o' h ho) (Below.refl _ _) (fun _ => rfl)
    (fun pre W => Grows W0 (w.heap.size + 1 + 1) 61 (mkL (stF css) (qs pre) Z) W)
    (fun _ _ _ => False)
    (grows_own W0 _ 61 _ (by have := Hsz.out; omega))
    (fun _ _ _ _ _ hs _ _ => hs)
    ⟨hN, grown_refl _ _⟩
    (fun x a' W => ∃ Bx, W.heap[Bx]? = some (.cells #[.int .i64 x.x, .int .i64 x.y, .int .i64 x.z] 24 (0, 0)) ∧ a' = { tmps := #[Value.slice (some { block := nb, off := no }) 9 nc, Value.pointer (some { block := w.heap.size, off := 0 }), Value.pointer (some { block := w.heap.size + 1, off := 0 }), Value.pointer (some { block := w.heap.size + 1 + 1, off := 0 }), .pointer (some ⟨Bx, 0, none⟩), undef, Value.func (Fn.func 64) #[] #[Value.pointer (some { block := w.heap.size + 1 + 1 + 1, off := 0 })], .agg #[.int .i64 x.x, .int .i64 x.y, .int .i64 x.z], undef, undef, undef, undef, undef, undef, undef, undef, undef, undef, undef, undef, undef, undef, undef, undef, undef, undef, undef], defers := [] })
    (fun x a' _ X Y row hs hg hr => by
      obtain ⟨Bx, h1, h2⟩ := hs
      exact ⟨Bx, cells_kept hg hr h1, h2⟩)
    ?assign ?body ?done ?stop
  case assign =>
    rintro l pre x W K ⟨hB, hg⟩ hK
    have HX : Hid (KeepsFrom W0.heap.size W (W.alloc (.cells #[.int .i64 x.x, .int .i64 x.y, .int .i64 x.z] 24)) ∧ Kp (w.heap.size + 1 + 1 + 1) W0.heap.size W (W.alloc (.cells #[.int .i64 x.x, .int .i64 x.y, .int .i64 x.z] 24)) ∧ Grows W0 (w.heap.size + 1 + 1) 61 (mkL (stF css) (qs pre) Z) (W.alloc (.cells #[.int .i64 x.x, .int .i64 x.y, .int .i64 x.z] 24))) :=
      ⟨(KeepsOthers.alloc _ _).from _, Kp.grow (World.grownBy_alloc W _ none), (Below.heap_alloc W _ _ hB.lt).trans hB, grown_trans hg (grown_of_below ((Below.refl _ W).alloc (Nat.le_refl _) _))⟩
    have HK : Hid (∀ a' W', _ → _ → _ → _ → K a' W') := hK
    clear hK hB hg
    gi_wp2
    exact HK.out _ _ HX.out.1 HX.out.2.1 HX.out.2.2 ⟨W.heap.size, heap_alloc_new W _, rfl⟩
  case body =>
    rintro l pre ⟨px, py, pz, hpx, hpy, hpz⟩ a' W _ _ hG ⟨Bx, hP, rfl⟩ hlt
    obtain ⟨X, hX⟩ : ∃ X : Nat, px + 2 = (X : Int) := ⟨(px + 2).toNat, by omega⟩
    obtain ⟨Y, hY⟩ : ∃ Y : Nat, py - 5 = (Y : Int) := ⟨(py - 5).toNat, by omega⟩
    obtain ⟨Zn, hZn⟩ : ∃ Zn : Nat, pz + 2 = (Zn : Int) := ⟨(pz + 2).toNat, by omega⟩
    obtain ⟨Kn, hKn⟩ : ∃ Kn : Nat, (Kn : Int) = 4 + 3 * (pz / 16) + px / 16 := ⟨(4 + 3 * (pz / 16) + px / 16).toNat, by omega⟩
    have hK9 : Kn < 9 := by omega
    have hcg := cell_got (css := css) hKn hpy
    have hgr : stF css px py pz = decide (cellN css px py pz = 1) := rfl
    have HS : Hid (∀ W' cs', W.grownBy W' (some (w.heap.size + 1 + 1)) → Blk W' (w.heap.size + 1 + 1) 61 cs' → cs' = (if stF css px py pz = true then (mkL (stF css) (qs pre) Z).set (Y * 400 + Zn * 20 + X) 1 else mkL (stF css) (qs pre) Z) →
        KeepsFrom W0.heap.size W W' ∧ Kp (w.heap.size + 1 + 1 + 1) W0.heap.size W W' ∧ Grows W0 (w.heap.size + 1 + 1) 61 (mkL (stF css) (qs (pre ++ [⟨px, py, pz, hpx, hpy, hpz⟩])) Z) W') := fun W' cs' h1 h2 h3 => by
      rw [qs_snoc, mkL_snoc]
      simp only
      rw [fpl_of hX hY hZn, ← h3]
      exact round_end hG h1 h2 (by decide) (by decide)
    rw [hgr] at HS
    clear hgr
    have hL : (mkL (stF css) (qs pre) Z).length = 10400 := by rw [mkL_len, HZ.out, List.length_replicate]
    generalize mkL (stF css) (qs pre) Z = M at *
    obtain ⟨hB, hg⟩ := hG
    have HM : Hid (Blk W (w.heap.size + 1 + 1) 61 M ∧ M.length = 10400) := ⟨hB, hL⟩
    have hgi : g Kn ≠ w.heap.size + 1 + 1 := by have := (HN.out.1.blk Kn hK9).lt; omega
    have hGt : Blk W (g Kn) 73 (css.getD Kn []) := grown_blk hg ((HN.out.1.blk Kn hK9).below Hbel.out (HN.out.1.blk Kn hK9).lt) hgi
    have hnl : nb < w.heap.size := by
      have := HN.out.2 0 (by omega)
      simp only [World.cell?] at this
      rcases hb : w.heap[nb]? with _ | o
      · simp [hb] at this
      · exact (Array.getElem?_eq_some_iff.1 hb).1
    have cn : W.cell? ⟨nb, no + Kn, none⟩ = some (.pointer (some ⟨g Kn, 0, none⟩)) := by
      have e1 := HN.out.2 Kn hK9
      have e2 : W.heap[nb]? = w.heap[nb]? := (hg.block nb (by have := Hbel.out.size; omega) (fun e => by have : nb = w.heap.size + 1 + 1 := (by simpa using e); omega)).trans (Hbel.out.block nb hnl)
      simp only [World.cell?] at e1 ⊢
      rw [e2]
      exact e1
    have c1 : W.cell? ⟨w.heap.size, 0, none⟩ = some (.slice (some ⟨nb, no, none⟩) 9 nc) := (cell_of_row W _ 0 _ 32 (0, 0) (grown_cells hg H0.out (by omega))).trans rfl
    have x0 : W.cell? ⟨Bx, 0, none⟩ = some (.int .i64 px) := (cell_of_row W _ 0 _ 24 (0, 0) hP).trans rfl
    have x1 : W.cell? ⟨Bx, 1, none⟩ = some (.int .i64 py) := (cell_of_row W _ 1 _ 24 (0, 0) hP).trans rfl
    have x2 : W.cell? ⟨Bx, 2, none⟩ = some (.int .i64 pz) := (cell_of_row W _ 2 _ 24 (0, 0) hP).trans rfl
    have HM2 : Hid (∀ W1, Below W.heap.size W W1 → Calls Try.prog 49 #[.pointer (some ⟨w.heap.size + 1 + 1, 0, none⟩), .agg #[.int .i64 px, .int .i64 py, .int .i64 pz]] W1 fun e w' => e = .returned (.tuple #[]) ∧ Blk w' (w.heap.size + 1 + 1) 61 (M.set (Y * 400 + Zn * 20 + X) 1) ∧ W1.grownBy w' (some (w.heap.size + 1 + 1))) := fun W1 hb =>
      mark_c _ M px py pz X Y Zn hX hY hZn (by omega) (by omega) (by omega) W1 (HM.out.1.below hb HM.out.1.lt) HM.out.2
    have HIx : Hid (∀ W1, Calls Try.prog 48 #[.agg #[.int .i64 px, .int .i64 py, .int .i64 pz]] W1 fun e w' => e = .returned (.int .i64 (indexN px py pz)) ∧ Below W1.heap.size W1 w') := fun W1 => index_c px py pz (by omega) (by omega) (by omega) (by omega) W1
    have HGt : Hid (∀ W1, Below W.heap.size W W1 → Calls Try.prog 47 #[.pointer (some ⟨g Kn, 0, none⟩), .int .i64 (indexN px py pz)] W1 fun e w' => e = .returned (.int .i64 (cellN css px py pz)) ∧ w' = W1) := fun W1 hb => by
      have := C.get_c (g Kn) (css.getD Kn []) (indexN px py pz) W1 (hGt.below hb hGt.lt) (HN.out.1.len Kn hK9) (HN.out.1.kin Kn hK9)
      rwa [hcg] at this
    have HCh : Hid (Calls Try.prog 46 #[.agg #[.int .i64 px, .int .i64 py, .int .i64 pz]] W fun e w' => e = .returned (.agg #[.int .i64 (px / 16), .int .i64 (pz / 16)]) ∧ Below W.heap.size W w') := chunk_c px py pz (by omega) (by omega) (by omega) (by omega) W
    obtain ⟨CX, hCX⟩ : ∃ CX, CX = px / 16 := ⟨_, rfl⟩
    obtain ⟨CZ, hCZ⟩ : ∃ CZ, CZ = pz / 16 := ⟨_, rfl⟩
    rw [← hCX, ← hCZ] at HCh hKn
    have bX : -1 ≤ CX ∧ CX ≤ 1 := by omega
    have bZ : -1 ≤ CZ ∧ CZ ≤ 1 := by omega
    obtain ⟨P0, hP0⟩ : ∃ P0 : Int, P0 = 3 * CZ := ⟨_, rfl⟩
    have hw0 : IntKind.i64.wrap (3 * CZ) = P0 := by rw [IntKind.wrap_i64, hP0]; omega
    obtain ⟨P1, hP1⟩ : ∃ P1 : Int, P1 = 4 + P0 := ⟨_, rfl⟩
    have hw1 : IntKind.i64.wrap (4 + P0) = P1 := by rw [IntKind.wrap_i64, hP1, hP0]; omega
    have hw2 : IntKind.i64.wrap (P1 + CX) = (Kn : Int) := by rw [IntKind.wrap_i64, hP1, hP0]; omega
    clear hP0 hP1 hKn hCX hCZ bX bZ
    obtain ⟨ix, hix⟩ : ∃ ix, ix = indexN px py pz := ⟨_, rfl⟩
    obtain ⟨cv, hcv⟩ : ∃ cv, cv = cellN css px py pz := ⟨_, rfl⟩
    rw [← hix] at HIx HGt
    rw [← hcv] at HGt HS
    have hK9' : (Kn : Int) < 9 := by omega
    obtain ⟨gk, hgk⟩ : ∃ gk, gk = g Kn := ⟨_, rfl⟩
    rw [← hgk] at cn HGt
    clear hgk hix hcv hcg hgi hGt hnl hB hg hL hlt hX hY hZn
    have HBx : Hid (Bx < W.heap.size) := (Array.getElem?_eq_some_iff.1 hP).1
    clear hP
    gi_wp2_with (fail)
    refine ⟨trivial, (CallsIn.inRound l (callsIn_wide.2 HCh.out)).mono ?_⟩
    clear HCh
    rintro _ w1 ⟨rfl, hb1⟩
    have hb2 : Below W.heap.size W (w1.alloc (.cells #[.int .i64 CX, .int .i64 CZ] 28)) := hb1.alloc hb1.size _
    have hnw := heap_alloc_new w1 (.cells #[.int .i64 CX, .int .i64 CZ] 28)
    have z0 : (w1.alloc (.cells #[.int .i64 CX, .int .i64 CZ] 28)).cell? ⟨w1.heap.size, 0, none⟩ = some (.int .i64 CX) := (cell_of_row _ _ 0 _ 28 (0, 0) hnw).trans rfl
    have z1 : (w1.alloc (.cells #[.int .i64 CX, .int .i64 CZ] 28)).cell? ⟨w1.heap.size, 1, none⟩ = some (.int .i64 CZ) := (cell_of_row _ _ 1 _ 28 (0, 0) hnw).trans rfl
    have Hr : Hid (Below W.heap.size W (w1.alloc (.cells #[.int .i64 CX, .int .i64 CZ] 28)) ∧ (w1.alloc (.cells #[.int .i64 CX, .int .i64 CZ] 28)).cell? ⟨w1.heap.size, 0, none⟩ = some (.int .i64 CX) ∧ (w1.alloc (.cells #[.int .i64 CX, .int .i64 CZ] 28)).cell? ⟨w1.heap.size, 1, none⟩ = some (.int .i64 CZ)) := ⟨hb2, z0, z1⟩
    have Hcs : Hid (W.cell? ⟨Bx, 0, none⟩ = some (.int .i64 px) ∧ W.cell? ⟨Bx, 1, none⟩ = some (.int .i64 py) ∧ W.cell? ⟨Bx, 2, none⟩ = some (.int .i64 pz) ∧ W.cell? ⟨w.heap.size, 0, none⟩ = some (.slice (some ⟨nb, no, none⟩) 9 nc) ∧ W.cell? ⟨nb, no + Kn, none⟩ = some (.pointer (some ⟨gk, 0, none⟩))) := ⟨x0, x1, x2, c1, cn⟩
    clear hb1 hb2 hnw z0 z1 x0 x1 x2 c1 cn
    gi_wp2_with (fail)
    generalize w1.alloc (.cells #[.int .i64 CX, .int .i64 CZ] 28) = w3 at *
    refine region_round_L (fun w' => Below w3.heap.size w3 w') 14 (by kernel_rfl) (by kernel_rfl) (by rintro ⟨_, _, h⟩; exact h) ?_
    have hHeld : Below w3.heap.size w3 w3.drew := (Below.refl _ w3).drew
    generalize w3.drew = va at *
    have hne : Nonempty (Sub (fun w' => Below w3.heap.size w3 w')) := ⟨⟨_, hHeld⟩⟩
    have k0 : ∀ s : Sub (fun w' => Below w3.heap.size w3 w'), s.w.cell? ⟨w.heap.size, 0, none⟩ = some (.slice (some ⟨nb, no, none⟩) 9 nc) := fun s => cell_below (cell_below Hcs.out.2.2.2.1 Hr.out.1) s.ok
    have k1 : ∀ s : Sub (fun w' => Below w3.heap.size w3 w'), s.w.cell? ⟨w1.heap.size, 0, none⟩ = some (.int .i64 CX) := fun s => cell_below Hr.out.2.1 s.ok
    have k2 : ∀ s : Sub (fun w' => Below w3.heap.size w3 w'), s.w.cell? ⟨w1.heap.size, 1, none⟩ = some (.int .i64 CZ) := fun s => cell_below Hr.out.2.2 s.ok
    have k3 : ∀ s : Sub (fun w' => Below w3.heap.size w3 w'), s.w.cell? ⟨nb, no + Kn, none⟩ = some (.pointer (some ⟨gk, 0, none⟩)) := fun s => cell_below (cell_below Hcs.out.2.2.2.2 Hr.out.1) s.ok
    have k4 : ∀ s : Sub (fun w' => Below w3.heap.size w3 w'), s.w.cell? ⟨Bx, 0, none⟩ = some (.int .i64 px) := fun s => cell_below (cell_below Hcs.out.1 Hr.out.1) s.ok
    have k5 : ∀ s : Sub (fun w' => Below w3.heap.size w3 w'), s.w.cell? ⟨Bx, 1, none⟩ = some (.int .i64 py) := fun s => cell_below (cell_below Hcs.out.2.1 Hr.out.1) s.ok
    have k6 : ∀ s : Sub (fun w' => Below w3.heap.size w3 w'), s.w.cell? ⟨Bx, 2, none⟩ = some (.int .i64 pz) := fun s => cell_below (cell_below Hcs.out.2.2.1 Hr.out.1) s.ok
    refine take_L (i := 0) rfl (by kernel_rfl) (by kernel_rfl) (by kernel_rfl) (by kernel_rfl) (fun _ _ _ _ h => h) (by exact hHeld) (fun K hK => ?_)
    go_simp
    refine hK _ ?_
    clear hK K
    refine take_L (i := 1) rfl (by kernel_rfl) (by kernel_rfl) (by kernel_rfl) (by kernel_rfl) (fun _ _ _ _ h => h) (by exact hHeld) (fun K hK => ?_)
    go_simp
    refine hK _ ?_
    clear hK K
    refine take_L (i := 2) rfl (by kernel_rfl) (by kernel_rfl) (by kernel_rfl) (by kernel_rfl) (fun _ _ _ _ h => h) (by exact hHeld) (fun K hK => ?_)
    go_simp
    refine hK _ ?_
    clear hK K
    refine take_L (i := 3) rfl (by kernel_rfl) (by kernel_rfl) (by kernel_rfl) (by kernel_rfl) (fun _ _ _ _ h => h) (by exact hHeld) (fun K hK => ?_)
    go_simp
    refine hK _ ?_
    clear hK K
    refine take_L (i := 4) rfl (by kernel_rfl) (by kernel_rfl) (by kernel_rfl) (by kernel_rfl) (fun _ _ _ _ h => h) (by exact hHeld) (fun K hK => ?_)
    go_simp
    refine hK _ ?_
    clear hK K
    refine take_L (i := 5) rfl (by kernel_rfl) (by kernel_rfl) (by kernel_rfl) (by kernel_rfl) (fun _ _ _ _ h => h) (by exact hHeld) (fun K hK => ?_)
    go_simp
    refine hK _ ?_
    clear hK K
    refine take_L (i := 6) rfl (by kernel_rfl) (by kernel_rfl) (by kernel_rfl) (by kernel_rfl) (fun _ _ _ _ h => h) (by exact hHeld) (fun K hK => ?_)
    go_simp
    refine hK _ ?_
    clear hK K
    refine take_L (i := 7) rfl (by kernel_rfl) (by kernel_rfl) (by kernel_rfl) (by kernel_rfl) (fun _ _ _ _ h => h) (by exact hHeld) (fun K hK => ?_)
    go_simp
    refine hK _ ?_
    clear hK K
    refine take_L (i := 8) rfl (by kernel_rfl) (by kernel_rfl) (by kernel_rfl) (by kernel_rfl) (fun _ _ _ _ h => h) (by exact hHeld) (fun K hK => ?_)
    go_simp
    refine hK _ ?_
    clear hK K
    refine take_L (i := 9) rfl (by kernel_rfl) (by kernel_rfl) (by kernel_rfl) (by kernel_rfl) (fun _ _ _ _ h => h) (by exact hHeld) (fun K hK => ?_)
    go_simp
    refine hK _ ?_
    clear hK K
    refine take_L (i := 10) rfl (by kernel_rfl) (by kernel_rfl) (by kernel_rfl) (by kernel_rfl) (fun _ _ _ _ h => h) (by exact hHeld) (fun K hK => ?_)
    go_simp
    refine hK _ ?_
    clear hK K
    refine one_L (i := 11) (by kernel_rfl) rfl (fun K hK => ?_)
    go_simp
    refine (HIx.out va).mono ?_
    rintro _ w4 ⟨rfl, hb4⟩
    have hHeld4 : Below w3.heap.size w3 w4 := hHeld.trans (hb4.mono hHeld.size)
    refine hK.out _ _ (fun _ => hHeld4) ?_
    clear hK K hb4 hHeld
    have hbW : Below W.heap.size W w4 := Hr.out.1.trans (hHeld4.mono Hr.out.1.size)
    have HBW : Hid (Below W.heap.size W w4) := hbW
    refine one_L (i := 12) (by kernel_rfl) rfl (fun K hK => ?_)
    go_simp
    refine (HGt.out w4 hbW).mono ?_
    rintro _ w5 ⟨rfl, hw5⟩
    replace hw5 := hw5.symm
    subst hw5
    refine hK.out _ _ (fun _ => hHeld4) ?_
    clear hK K
    by_cases h1 : cv = 1
    · have h1' : (cv == 1) = true := by simp [h1]
      refine take_L (i := 13) rfl (by kernel_rfl) (by kernel_rfl) (by kernel_rfl) (by kernel_rfl) (fun _ _ _ _ h => h) (by exact hHeld4) (fun K hK => ?_)
      go_simp
      refine hK _ ?_
      clear hK K
      refine done_L (by kernel_rfl) ?_ _
      have y0 := cell_below Hcs.out.1 hbW
      have y1 := cell_below Hcs.out.2.1 hbW
      have y2 := cell_below Hcs.out.2.2.1 hbW
      clear k0 k1 k2 k3 k4 k5 k6 hne hbW hHeld4 hw0 hw1 hw2
      gi_wp2_with (fail)
      refine ⟨trivial, (CallsIn.inRound l (callsIn_wide.2 (HM2.out _ HBW.out))).mono ?_⟩
      rintro _ w6 ⟨rfl, hb7, hg7⟩
      have HE := HS.out w6 _ (grown_trans (grown_of_below HBW.out) hg7) hb7 (by simp [h1])
      have HE2 : Hid _ := HE
      clear HS HE hb7 hg7
      gi_wp2
      exact HE2.out
    · have h1' : (cv == 1) = false := by simp [h1]
      refine take_L (i := 13) rfl (by kernel_rfl) (by kernel_rfl) (by kernel_rfl) (by kernel_rfl) (fun _ _ _ _ h => h) (by exact hHeld4) (fun K hK => ?_)
      go_simp
      refine hK _ ?_
      clear hK K
      refine done_L (by kernel_rfl) ?_ _
      have HE := HS.out w4 M (grown_of_below hbW) (HM.out.1.below hbW HM.out.1.lt) (by simp [h1])
      have HE2 : Hid _ := HE
      clear HS HE k0 k1 k2 k3 k4 k5 k6 hne hbW hHeld4 hw0 hw1 hw2
      gi_wp2
      exact HE2.out
  case done =>
    rintro D ys W hD hq ⟨hB, hg⟩ hK
    have hq' : qs ys = boxD 2 := by rw [hq]; rfl
    have HM : Hid (FIs (mkL (stF css) (qs ys) Z) 2 (stF css)) := by rw [hq']; exact mk_is _ 2 (by omega) (by omega) Z HZ.out
    generalize mkL (stF css) (qs ys) Z = M at *
    have hRW : Blk W (w.heap.size + 1) 61 Z := grown_blk hg HR.out (by omega)
    have hZ1 : Z.length = 10400 := by rw [HZ.out, List.length_replicate]
    have hM1 := HM.out.len
    have Hg : Hid (Below w.heap.size w W) := by
      refine ⟨hg.os.trans Hbel.out.os, hg.tape.trans Hbel.out.tape, hg.output.trans Hbel.out.output, Nat.le_trans Hbel.out.size hg.size, fun k hk => ?_⟩
      exact (hg.block k (by have := Hbel.out.size; omega) (fun e => by have : k = w.heap.size + 1 + 1 := (by simpa using e); omega)).trans (Hbel.out.block k hk)
    clear hg
    gi_wp2_with (first | (refine wpListIn_load_fld rfl _ rfl (w.heap.size + 1 + 1) rfl M hB hM1 ?_) | (refine wpListIn_store_fld rfl _ _ rfl (w.heap.size + 1) M Z rfl rfl hRW hM1 hZ1 ?_))
    have hD1 : (W.setRow (w.heap.size + 1) (vals M)).heap[D]? = some (.deferred (some [])) := (setRow_other W _ D _ (by have := Hsz.out; omega)).trans hK
    have hR2 : Blk ((W.setRow (w.heap.size + 1) (vals M)).putObj D (.deferred none)) (w.heap.size + 1) 61 M := ((grownBy_putObj' _ D _).block _ (by simp; have := hRW.lt; omega) (fun e => by have : w.heap.size + 1 = D := (by simpa using e); have := Hsz.out; omega)).trans (blk_row hRW)
    refine ⟨by simp, .inl ⟨_, _, rfl, run_takeDeferred hD1, ?_⟩⟩
    exact ⟨_, results_cell_row rfl _ _ (w.heap.size + 1) 61 _ (0, 0) _ rfl hR2 Try.underlying61 rfl (info61 (by rw [vals_size, hM1])), HP.out M _ HM.out (Hg.out.trans ((below_row (Below.refl _ W) (by omega) _).trans (belowK_b (w := w) (Nat.le_refl _) (W.setRow (w.heap.size + 1) (vals M)) D _ (.deferred none) (by have := Hsz.out; omega) hD1 rfl rfl)))⟩
  case stop =>
    rintro D c pre W _ _ h _
    exact h.elim
end
section
open C G Go.RowKit Go.Shelf

attribute [local go_sem] Oper.semAt_some

/-- What hollow reads within a round. -/
structure Rh (bc Bx gc : Nat) (px py pz : Int) (w : World) : Prop where
  c : w.heap[bc]? = some (.cells #[.pointer (some ⟨gc, 0, none⟩)] 34 (0, 0))
  p : w.heap[Bx]? = some (.cells #[.int .i64 px, .int .i64 py, .int .i64 pz] 24 (0, 0))
theorem Rh.on {bc Bx gc : Nat} {px py pz : Int} {w w' : World} (h : Rh bc Bx gc px py pz w) (hb : Below w.heap.size w w') : Rh bc Bx gc px py pz w' :=
  ⟨(hb.block bc (Array.getElem?_eq_some_iff.1 h.c).1).trans h.c, (hb.block Bx (Array.getElem?_eq_some_iff.1 h.p).1).trans h.p⟩
def hoF (fo : Fld) : Fld := fun x y z => inB 0 x y z && fo x y z
def HoSay (fo : Fld) (cs : List Int) (w : World) (e : Ending) (w' : World) : Prop := Below w.heap.size w w' ∧ ∃ g', e = .returned (.pointer (some ⟨g', 0, none⟩)) ∧ Blk w' g' 73 (mkC (hoF fo) (boxD 0) cs)
theorem grown_only {g : Nat} {w w' : World} (h : Only g w w') : w.grownBy w' (some g) := ⟨h.os, h.tape, h.output, Nat.le_of_eq h.size.symm, fun k _ hne => h.block k (fun e => hne (by rw [e]))⟩
set_option maxRecDepth 100000 in
set_option maxHeartbeats 2000000 in
theorem hollow_c (g bo : Nat) (cs os : List Int) (fo : Fld) (w : World) (hC : Blk w g 73 cs) (hl : cs.length = 32768) (hO : Blk w bo 61 os) (hOi : FIs os 0 fo) :
    Calls Try.prog 32 #[.pointer (some ⟨g, 0, none⟩), .pointer (some ⟨bo, 0, none⟩)] w (HoSay fo cs w) := by
  obtain ⟨Post, hPost⟩ : ∃ Post : Ending → World → Prop, Post = HoSay fo cs w := ⟨_, rfl⟩
  rw [← hPost]
  have HP : Hid (∀ w', Blk w' (w.heap.size + 1) 73 (mkC (hoF fo) (boxD 0) cs) → Below w.heap.size w w' → Post (.returned (.pointer (some ⟨w.heap.size + 1, 0, none⟩))) w') := fun w' h1 h2 => by rw [hPost]; exact ⟨h2, _, rfl, h1⟩
  clear hPost
  have HO : Hid (Blk w bo 61 os) := hO
  have hCa : Blk (w.alloc (.cells #[.pointer (some ⟨bo, 0, none⟩)] 64)) g 73 cs := (Below.heap_alloc w _ g hC.lt).trans hC
  have hcp := copy_c g cs _ hCa hl
  rw [World.size_alloc] at hcp
  clear hCa hO hC
  obtain ⟨V, hV⟩ : ∃ V, V = vals cs := ⟨_, rfl⟩
  rw [← hV] at hcp
  have HV : Hid (V = vals cs) := hV
  clear hV
  refine (callsIn_wide (n := 6)).1 ?_
  refine callsIn_of_wp_marks Try.func32 rfl trivial ?_ rfl
  simp only [Try.ntmps32, List.size_toArray, List.length_cons, List.length_nil, Nat.reduceAdd, Nat.reduceSub, Array.replicate_succ, Array.replicate_zero, List.push_toArray, List.append_toArray, List.nil_append, List.cons_append]
  gi_wp2_with (fail)
  refine ⟨trivial, ?_⟩
  refine (callsIn_wide.2 hcp).mono ?_
  rintro e w1 ⟨rfl, rfl⟩
  clear hcp
  gi_wp2_with (fail)
  refine ⟨trivial, ?_⟩
  refine (callsIn_wide.2 (cells_c 0 (by omega) (by omega) _)).mono ?_
  rintro e w2 ⟨rfl, rfl⟩
  gi_wp2_with (fail)
  obtain ⟨W0, hW0⟩ : ∃ W0, W0 = (((w.alloc (.cells #[.pointer (some ⟨bo, 0, none⟩)] 64)).alloc (.cells V 73)).alloc (.cells #[.pointer (some ⟨w.heap.size + 1, 0, none⟩)] 34)).alloc (.cells #[.int .i64 0, .int .i64 6, .int .i64 0, .int .i64 15, .int .i64 29, .int .i64 15] 95) := ⟨_, rfl⟩
  obtain ⟨hsz, hbel, h0, h1, h2, h4⟩ := chain4 w _ _ _ _ hW0
  rw [← hW0]
  clear hW0
  have Hsz : Hid (W0.heap.size = w.heap.size + 4) := hsz
  have Hbel : Hid (Below w.heap.size w W0) := hbel
  have hN : Blk W0 (w.heap.size + 1) 73 cs := by unfold Blk; rw [← HV.out]; exact h1
  have H0 : Hid (W0.heap[w.heap.size]? = some (.cells #[.pointer (some ⟨bo, 0, none⟩)] 64) ∧ W0.heap[w.heap.size + 1 + 1]? = some (.cells #[.pointer (some ⟨w.heap.size + 1, 0, none⟩)] 34)) := ⟨h0, h2⟩
  have HBo : Hid (Blk W0 bo 61 os ∧ bo < w.heap.size) := ⟨HO.out.below hbel HO.out.lt, HO.out.lt⟩
  clear hsz hbel h0 h1 h2 HO
  have hst := each_q 5 (by omega) (w.heap.size + 1 + 1 + 1) W0.heap.size 0 6 0 15 29 15 16 24 16 (by omega) (by omega) (by omega) (by omega) (by omega) (by omega) (by omega) (by omega) (by omega) W0 (by have := Hsz.out; omega) (Nat.le_refl _) h4
  refine wpIn_rangeFunc_ownH rfl (by decide) (gf := 64) (lb := #[.pointer (some ⟨w.heap.size + 1 + 1 + 1, 0, none⟩)]) rfl trivial (enters_of Try.func64 (by kernel_rfl) rfl)
    hst (fun h k => Kp.trans h k) (fun W l o o' _ h ho _ => Kp.book W l o o' h ho) (Below.refl _ _) (fun _ => rfl)
    (fun pre W => Grows W0 (w.heap.size + 1) 73 (mkC (hoF fo) (qs pre) cs) W)
    (fun _ _ _ => False)
    (grows_own W0 _ 73 _ (by have := Hsz.out; omega))
    (fun _ _ _ _ _ hs _ _ => hs)
    ⟨hN, grown_refl _ _⟩
    (fun x a' W => ∃ Bx, W.heap[Bx]? = some (.cells #[.int .i64 x.x, .int .i64 x.y, .int .i64 x.z] 24 (0, 0)) ∧ a' = { tmps := #[Value.pointer (some { block := g, off := 0 }), Value.pointer (some { block := bo, off := 0 }), undef, Value.pointer (some { block := w.heap.size, off := 0 }), Value.pointer none, Value.pointer (some { block := w.heap.size + 1 + 1, off := 0 }), .pointer (some ⟨Bx, 0, none⟩), Value.pointer (some { block := g, off := 0 }), Value.pointer (some { block := w.heap.size + 1, off := 0 }), Value.func (Fn.func 64) #[] #[Value.pointer (some { block := w.heap.size + 1 + 1 + 1, off := 0 })], .agg #[.int .i64 x.x, .int .i64 x.y, .int .i64 x.z], undef, undef, undef, undef, undef, undef, undef, undef, undef, undef, undef], defers := [] })
    (fun x a' _ X Y row hs hg hr => by
      obtain ⟨Bx, h1, h2⟩ := hs
      exact ⟨Bx, cells_kept hg hr h1, h2⟩)
    ?assign ?body ?done ?stop
  case assign =>
    rintro l pre x W K ⟨hB, hg⟩ hK
    have HX : Hid (KeepsFrom W0.heap.size W (W.alloc (.cells #[.int .i64 x.x, .int .i64 x.y, .int .i64 x.z] 24)) ∧ Kp (w.heap.size + 1 + 1 + 1) W0.heap.size W (W.alloc (.cells #[.int .i64 x.x, .int .i64 x.y, .int .i64 x.z] 24)) ∧ Grows W0 (w.heap.size + 1) 73 (mkC (hoF fo) (qs pre) cs) (W.alloc (.cells #[.int .i64 x.x, .int .i64 x.y, .int .i64 x.z] 24))) :=
      ⟨(KeepsOthers.alloc _ _).from _, Kp.grow (World.grownBy_alloc W _ none), (Below.heap_alloc W _ _ hB.lt).trans hB, grown_trans hg (grown_of_below ((Below.refl _ W).alloc (Nat.le_refl _) _))⟩
    have HK : Hid (∀ a' W', _ → _ → _ → _ → K a' W') := hK
    clear hK hB hg
    gi_wp2
    exact HK.out _ _ HX.out.1 HX.out.2.1 HX.out.2.2 ⟨W.heap.size, heap_alloc_new W _, rfl⟩
  case body =>
    rintro l pre ⟨px, py, pz, hpx, hpy, hpz⟩ a' W _ _ hG ⟨Bx, hP, rfl⟩ hlt
    obtain ⟨X, hX⟩ : ∃ X : Nat, px + 2 = (X : Int) := ⟨(px + 2).toNat, by omega⟩
    obtain ⟨Y, hY⟩ : ∃ Y : Nat, py - 5 = (Y : Int) := ⟨(py - 5).toNat, by omega⟩
    obtain ⟨Zn, hZn⟩ : ∃ Zn : Nat, pz + 2 = (Zn : Int) := ⟨(pz + 2).toNat, by omega⟩
    have hin : inF px py pz := by unfold inF; omega
    have hv1 : os.getD (Y * 400 + Zn * 20 + X) 0 = bi (hoF fo px py pz) := by rw [← fpl_of hX hY hZn]; exact hOi.has _ _ _ hin
    obtain ⟨fv, hfv⟩ : ∃ fv : Int, fv = if py ≤ 10 then 5 else 0 := ⟨_, rfl⟩
    have bfv : 0 ≤ fv ∧ fv ≤ 16 := by rw [hfv]; split <;> omega
    obtain ⟨β, hβ⟩ : ∃ β, β = hoF fo px py pz := ⟨_, rfl⟩
    rw [← hβ] at hv1
    obtain ⟨ix, hix⟩ : ∃ ix, ix = indexN px py pz := ⟨_, rfl⟩
    have hix2 : ix = py * 256 + pz * 16 + px := by rw [hix]; unfold indexN; rw [if_pos (by omega)]; omega
    have HS : Hid (∀ W' cs', W.grownBy W' (some (w.heap.size + 1)) → Blk W' (w.heap.size + 1) 73 cs' → cs' = (if β = true then (mkC (hoF fo) (qs pre) cs).set ix.toNat fv else mkC (hoF fo) (qs pre) cs) →
        KeepsFrom W0.heap.size W W' ∧ Kp (w.heap.size + 1 + 1 + 1) W0.heap.size W W' ∧ Grows W0 (w.heap.size + 1) 73 (mkC (hoF fo) (qs (pre ++ [⟨px, py, pz, hpx, hpy, hpz⟩])) cs) W') := fun W' cs' h1 h2 h3 => by
      rw [qs_snoc, mkC_snoc]
      simp only
      rw [← hβ, ← hix2, ← hfv, ← h3]
      exact round_end hG h1 h2 (by decide) (by decide)
    clear hβ
    have hL : (mkC (hoF fo) (qs pre) cs).length = 32768 := by rw [mkC_len, hl]
    generalize mkC (hoF fo) (qs pre) cs = M at *
    obtain ⟨hB, hg⟩ := hG
    have HM : Hid (Blk W (w.heap.size + 1) 73 M ∧ M.length = 32768) := ⟨hB, hL⟩
    have HOF : Hid (Blk W bo 61 os) := grown_blk hg HBo.out.1 (by have := HBo.out.2; omega)
    have HRh : Hid (Rh (w.heap.size + 1 + 1) Bx (w.heap.size + 1) px py pz W) := ⟨grown_cells hg H0.out.2 (by omega), hP⟩
    have c3 : W.cell? ⟨w.heap.size, 0, none⟩ = some (.pointer (some ⟨bo, 0, none⟩)) := (cell_of_row W _ 0 _ 64 (0, 0) (grown_cells hg H0.out.1 (by omega))).trans rfl
    have x0 : W.cell? ⟨Bx, 0, none⟩ = some (.int .i64 px) := (cell_of_row W _ 0 _ 24 (0, 0) hP).trans rfl
    have x1 : W.cell? ⟨Bx, 1, none⟩ = some (.int .i64 py) := (cell_of_row W _ 1 _ 24 (0, 0) hP).trans rfl
    have x2 : W.cell? ⟨Bx, 2, none⟩ = some (.int .i64 pz) := (cell_of_row W _ 2 _ 24 (0, 0) hP).trans rfl
    have HC : Hid (Calls Try.prog 51 #[.pointer (some ⟨bo, 0, none⟩), .agg #[.int .i64 px, .int .i64 py, .int .i64 pz]] W fun e w' => e = .returned (.bool β) ∧ Below W.heap.size W w') :=
      fhas_c bo os px py pz X Y Zn β hX hY hZn (by omega) (by omega) (by omega) W HOF.out hOi.len hv1
    have HIx : Hid (∀ W1, Calls Try.prog 48 #[.agg #[.int .i64 px, .int .i64 py, .int .i64 pz]] W1 fun e w' => e = .returned (.int .i64 ix) ∧ Below W1.heap.size W1 w') := fun W1 => by
      rw [hix]; exact index_c px py pz (by omega) (by omega) (by omega) (by omega) W1
    have HFi : Hid (∀ W1, Calls Try.prog 55 #[.int .i64 py] W1 fun e w' => e = .returned (.int .i64 fv) ∧ w' = W1) := fun W1 => by rw [hfv]; exact filling_c py W1
    have HSe : Hid (∀ W1, Blk W1 (w.heap.size + 1) 73 M → Calls Try.prog 54 #[.pointer (some ⟨w.heap.size + 1, 0, none⟩), .int .i64 ix, .int .i64 fv] W1 fun e w' => e = .returned (.bool true) ∧ Blk w' (w.heap.size + 1) 73 (M.set ix.toNat fv) ∧ Only (w.heap.size + 1) W1 w') := fun W1 hb => by
      have h9 := set_c (w.heap.size + 1) M ix fv W1 hb HM.out.2
      obtain ⟨e1, e2⟩ := okSet_yes (i := ix) (k := fv) (by omega) M
      rwa [e1, e2] at h9
    clear hfv bfv hix hix2 hv1 hin hX hY hZn hB hg hP hL hlt
    gi_wp2_with (fail)
    refine ⟨trivial, (CallsIn.inRound l (callsIn_wide.2 HC.out)).mono ?_⟩
    rintro _ w3 ⟨rfl, hb3⟩
    have HB3 : Hid (Below W.heap.size W w3) := hb3
    rcases β with _ | _
    · have HE := HS.out w3 M (grown_of_below hb3) (HM.out.1.below hb3 HM.out.1.lt) (by simp)
      have HE2 : Hid _ := HE
      clear HS HE hb3 HC x0 x1 x2 c3
      gi_wp2
      exact HE2.out
    · have HR3 : Hid (Rh (w.heap.size + 1 + 1) Bx (w.heap.size + 1) px py pz w3) := HRh.out.on hb3
      clear hb3 HC x0 x1 x2 c3 HRh
      gi_wp2_with (fail)
      refine region_round_L (Rh (w.heap.size + 1 + 1) Bx (w.heap.size + 1) px py pz) 7 (by kernel_rfl) (by kernel_rfl) (by rintro ⟨_, _, h⟩; exact h) ?_
      have hHeld : Rh (w.heap.size + 1 + 1) Bx (w.heap.size + 1) px py pz w3.drew := ⟨HR3.out.c, HR3.out.p⟩
      have HBd : Hid (Below W.heap.size W w3.drew) := HB3.out.drew
      generalize w3.drew = va at *
      have hne : Nonempty (Sub (Rh (w.heap.size + 1 + 1) Bx (w.heap.size + 1) px py pz)) := ⟨⟨_, hHeld⟩⟩
      have k0 : ∀ s : Sub (Rh (w.heap.size + 1 + 1) Bx (w.heap.size + 1) px py pz), s.w.cell? ⟨w.heap.size + 1 + 1, 0, none⟩ = some (.pointer (some ⟨w.heap.size + 1, 0, none⟩)) := fun s => (cell_of_row s.w _ 0 _ 34 (0, 0) s.ok.c).trans rfl
      have k1 : ∀ s : Sub (Rh (w.heap.size + 1 + 1) Bx (w.heap.size + 1) px py pz), s.w.cell? ⟨Bx, 0, none⟩ = some (.int .i64 px) := fun s => (cell_of_row s.w _ 0 _ 24 (0, 0) s.ok.p).trans rfl
      have k2 : ∀ s : Sub (Rh (w.heap.size + 1 + 1) Bx (w.heap.size + 1) px py pz), s.w.cell? ⟨Bx, 1, none⟩ = some (.int .i64 py) := fun s => (cell_of_row s.w _ 1 _ 24 (0, 0) s.ok.p).trans rfl
      have k3 : ∀ s : Sub (Rh (w.heap.size + 1 + 1) Bx (w.heap.size + 1) px py pz), s.w.cell? ⟨Bx, 2, none⟩ = some (.int .i64 pz) := fun s => (cell_of_row s.w _ 2 _ 24 (0, 0) s.ok.p).trans rfl
      refine take_L (i := 0) rfl (by kernel_rfl) (by kernel_rfl) (by kernel_rfl) (by kernel_rfl) (fun _ _ _ _ h => h) (by exact hHeld) (fun K hK => ?_)
      go_simp
      refine hK _ ?_
      clear hK K
      refine take_L (i := 1) rfl (by kernel_rfl) (by kernel_rfl) (by kernel_rfl) (by kernel_rfl) (fun _ _ _ _ h => h) (by exact hHeld) (fun K hK => ?_)
      go_simp
      refine hK _ ?_
      clear hK K
      refine take_L (i := 3) rfl (by kernel_rfl) (by kernel_rfl) (by kernel_rfl) (by kernel_rfl) (fun _ _ _ _ h => h) (by exact hHeld) (fun K hK => ?_)
      go_simp
      refine hK _ ?_
      clear hK K
      refine take_L (i := 4) rfl (by kernel_rfl) (by kernel_rfl) (by kernel_rfl) (by kernel_rfl) (fun _ _ _ _ h => h) (by exact hHeld) (fun K hK => ?_)
      go_simp
      refine hK _ ?_
      clear hK K
      refine one_L (i := 2) (by kernel_rfl) rfl (fun K hK => ?_)
      go_simp
      refine (HIx.out va).mono ?_
      rintro _ w4 ⟨rfl, hb4⟩
      have hHeld4 := hHeld.on hb4
      refine hK.out _ _ (fun _ => hHeld4) ?_
      clear hK K
      have HB4 : Hid (Below W.heap.size W w4) := HBd.out.trans (hb4.mono HBd.out.size)
      clear hb4 hHeld HBd
      refine one_L (i := 5) (by kernel_rfl) rfl (fun K hK => ?_)
      go_simp
      refine (HFi.out w4).mono ?_
      rintro _ w5 ⟨rfl, hw5⟩
      replace hw5 := hw5.symm
      subst hw5
      refine hK.out _ _ (fun _ => hHeld4) ?_
      clear hK K
      refine one_L (i := 6) (by kernel_rfl) rfl (fun K hK => ?_)
      go_simp
      refine (HSe.out w4 (HM.out.1.below HB4.out HM.out.1.lt)).mono ?_
      rintro _ w6 ⟨rfl, hb6, ho6⟩
      have hHeld6 : Rh (w.heap.size + 1 + 1) Bx (w.heap.size + 1) px py pz w6 := ⟨(ho6.block _ (by omega)).trans hHeld4.c, (ho6.block _ (fun e => by
        have e1 := HM.out.1.below HB4.out HM.out.1.lt
        rw [e] at hHeld4
        have e2 := hHeld4.p
        rw [e1] at e2
        simp at e2)).trans hHeld4.p⟩
      refine hK.out _ _ (fun _ => hHeld6) ?_
      clear hK K
      refine done_L (by kernel_rfl) ?_ _
      have HE := HS.out w6 _ (grown_trans (grown_of_below HB4.out) (grown_only ho6)) hb6 (by simp)
      have HE2 : Hid _ := HE
      clear HS HE k0 k1 k2 k3 hne hHeld4 hHeld6 hb6 ho6
      gi_wp2
      exact HE2.out
  case done =>
    rintro D ys W hD hq ⟨hB, hg⟩ hK
    have hq' : qs ys = boxD 0 := by rw [hq]; rfl
    rw [hq'] at hB
    have HM : Hid (Blk W (w.heap.size + 1) 73 (mkC (hoF fo) (boxD 0) cs)) := hB
    have c5 : W.cell? ⟨w.heap.size + 1 + 1, 0, none⟩ = some (.pointer (some ⟨w.heap.size + 1, 0, none⟩)) := (cell_of_row W _ 0 _ 34 (0, 0) (grown_cells hg H0.out.2 (by omega))).trans rfl
    have Hg : Hid (Below w.heap.size w W) := by
      refine ⟨hg.os.trans Hbel.out.os, hg.tape.trans Hbel.out.tape, hg.output.trans Hbel.out.output, Nat.le_trans Hbel.out.size hg.size, fun k hk => ?_⟩
      exact (hg.block k (by have := Hbel.out.size; omega) (fun e => by have : k = w.heap.size + 1 := (by simpa using e); omega)).trans (Hbel.out.block k hk)
    clear hg hB
    gi_wp2
    refine ⟨by simp, .inl ⟨_, _, rfl, run_takeDeferred hK, ?_⟩⟩
    have hR2 : Blk (W.putObj D (.deferred none)) (w.heap.size + 1) 73 (mkC (hoF fo) (boxD 0) cs) := ((grownBy_putObj' _ D _).block _ HM.out.lt (fun e => by have : w.heap.size + 1 = D := (by simpa using e); have := Hsz.out; omega)).trans HM.out
    exact ⟨_, results_tmp (t := 4) rfl _ _ _, HP.out _ hR2 (Hg.out.trans (belowK_b (w := w) (Nat.le_refl _) W D _ (.deferred none) (by have := Hsz.out; omega) hK rfl rfl))⟩
  case stop =>
    rintro D c pre W _ _ h _
    exact h.elim
end
end Go.Proofs.Ytajjaeaknonmfaa
