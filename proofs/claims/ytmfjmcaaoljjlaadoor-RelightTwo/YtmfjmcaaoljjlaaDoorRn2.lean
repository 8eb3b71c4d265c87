/-
  The landed lit: the light of cells that had none.
-/
import Derived.Test.YtmfjmcaaoljjlaaDoorRl1
import Derived.Test.YtmfjmcaaoljjlaaDoorRn1
set_option maxRecDepth 20000
namespace Go.Proofs.YtmfjmcaaoljjlaaDoor
open C Go.RowKit L

def ZS (n : Nat) : Array Value := madeCells #[.int .i64 0, .int .i64 0] (n * 2)
theorem zs_at {n k : Nat} (h : k < n * 2) : (ZS n)[k]? = some (.int .i64 0) := by
  unfold ZS madeCells
  rw [Array.getElem?_map, Array.getElem?_range, if_pos h]
  have : k % 2 = 0 ∨ k % 2 = 1 := by omega
  rcases this with e | e
  · show some ((#[Value.int .i64 0, .int .i64 0])[k % 2]!) = _
    rw [e]; rfl
  · show some ((#[Value.int .i64 0, .int .i64 0])[k % 2]!) = _
    rw [e]; rfl
theorem make_sh (n : Nat) (hn : n ≤ 1000000) (w : World) : (Instr.makeSlice 62 (.int .i64 (n : Int)) (.int .i64 (n : Int))).run Tryd.prog w = .ok (.slice (some ⟨w.heap.size, 0, none⟩) n n) (w.alloc (.cells (ZS n) 64)) := by
  obtain ⟨i, hi, hz0, hz1, hz2⟩ := info_parts info64
  have := run_makeSlice (P := Tryd.prog) w 62 64 i _ Tryd.underlying62 hi hz0 .i64 .i64 (n : Int) (n : Int) (by omega) (Int.le_refl _) (by rw [hz1]; simp; omega) (by rw [hz2]; omega) (by omega)
  rw [hz1] at this
  exact this
/-- The list of shadows, while its cells are told. -/
def ShI (w1 : World) (db n k : Nat) (w : World) : Prop := ∃ cur, w.heap[db]? = some (.cells cur 64 (0, 0)) ∧ (∀ j, j < n * 2 → ∃ h : Int, cur[j]? = some (.int .i64 h)) ∧ (∀ j, j < k → cur[j * 2]? = some (.int .i64 (j : Int))) ∧ w1.grownBy w (some db)
set_option maxRecDepth 1000000 in
set_option maxHeartbeats 8000000 in
theorem lit_c (e : LE) (hbx : Bx e.W e.D e.T) (hkl : e.ks.length = e.n) (hkk : Kinds e.ks) (w : World) (hB : BM e w) :
    Calls Tryd.prog 20 #[.pointer (some ⟨e.p, 0, none⟩), e.src] w fun x w' => ∃ g ls, x = .returned (.agg #[.pointer (some ⟨e.p, 0, none⟩), e.src, .slice (some ⟨g, 0, none⟩) e.n e.n]) ∧ LightOf (e.sys hbx) e.n ls ∧ Pre w' g 5 ls ∧ Below w.heap.size w w' ∧ w.heap.size ≤ g := by
  obtain ⟨Post, hPost⟩ : ∃ Post : Ending → World → Prop, Post = fun x w' => ∃ g ls, x = .returned (.agg #[.pointer (some ⟨e.p, 0, none⟩), e.src, .slice (some ⟨g, 0, none⟩) e.n e.n]) ∧ LightOf (e.sys hbx) e.n ls ∧ Pre w' g 5 ls ∧ Below w.heap.size w w' ∧ w.heap.size ≤ g := ⟨_, rfl⟩
  rw [← hPost]
  have HP : Hid (∀ g ls w', LightOf (e.sys hbx) e.n ls → Pre w' g 5 ls → Below w.heap.size w w' → w.heap.size ≤ g → Post (.returned (.agg #[.pointer (some ⟨e.p, 0, none⟩), e.src, .slice (some ⟨g, 0, none⟩) e.n e.n])) w') := fun g ls w' h1 h2 h3 h4 => by rw [hPost]; exact ⟨g, ls, rfl, h1, h2, h3, h4⟩
  clear hPost
  have hnb : e.n ≤ 294912 := Nat.le_trans (Nat.mul_le_mul (Nat.mul_le_mul hbx.w1 hbx.d1) hbx.t1) (by decide)
  have hn0 : 0 < e.n := Nat.mul_pos (Nat.mul_pos hbx.w0 hbx.d0) hbx.t0
  have HS : Hid (Bx e.W e.D e.T ∧ e.ks.length = e.n ∧ Kinds e.ks ∧ BM e w) := ⟨hbx, hkl, hkk, hB⟩
  obtain ⟨U, hSV⟩ : ∃ U, e.src = .iface U (.agg #[.pointer (some ⟨e.p, 0, none⟩)]) := by
    unfold LE.src
    split
    · exact ⟨57, rfl⟩
    · exact ⟨58, rfl⟩
  have HSV : Hid (e.src = .iface U (.agg #[.pointer (some ⟨e.p, 0, none⟩)])) := hSV
  rw [hSV]
  have b3 := cell_below hB.b3 ((Below.refl w.heap.size w).alloc (Nat.le_refl _) (.cells #[.pointer none, .nilIface, .slice none 0 0] 52))
  obtain ⟨n, hn⟩ : ∃ n, e.n = n := ⟨_, rfl⟩
  have Hn : Hid (e.n = n) := hn
  rw [hn] at b3 hnb hn0
  have hmk := make_sh n (by omega)
  have hmb := make_n n (by omega)
  clear hkl hkk hB hSV hn
  go_enter Tryd.func20, Tryd.ntmps20
  go_wp2_with fail
  obtain ⟨w1, hw1⟩ : ∃ w1, (w.alloc (.cells #[.pointer none, .nilIface, .slice none 0 0] 52)).alloc (.cells (ZS n) 64) = w1 := ⟨_, rfl⟩
  have hbe := below_two w (.cells #[.pointer none, .nilIface, .slice none 0 0] 52) (.cells (ZS n) 64)
  have hz1 := new_two w (.cells #[.pointer none, .nilIface, .slice none 0 0] 52) (.cells (ZS n) 64)
  have hz0 : w1.heap[w.heap.size]? = some (.cells #[.pointer none, .nilIface, .slice none 0 0] 52 (0, 0)) := by
    rw [← hw1]
    exact (heap_alloc_old _ _ (by simp)).trans (heap_alloc_new w _)
  rw [hw1] at hbe hz1 ⊢
  have hs1 : w1.heap.size = w.heap.size + 2 := by rw [← hw1]; simp
  obtain ⟨gr, hgr⟩ : ∃ gr, w.heap.size = gr := ⟨_, rfl⟩
  obtain ⟨db, hdb⟩ : ∃ db, w.heap.size + 1 = db := ⟨_, rfl⟩
  rw [hdb] at hz1 ⊢
  rw [hgr] at hz0 hs1 ⊢
  have H1 : Hid (Below w.heap.size w w1 ∧ w1.heap[gr]? = some (.cells #[.pointer none, .nilIface, .slice none 0 0] 52 (0, 0)) ∧ w1.heap.size = gr + 2 ∧ w.heap.size = gr ∧ gr + 1 = db) := ⟨hbe, hz0, hs1, hgr, by omega⟩
  have HI0 : Hid (ShI w1 db n 0 w1) := ⟨ZS n, hz1, fun j hj => ⟨0, zs_at hj⟩, fun j hj => absurd hj (Nat.not_lt_zero _), ⟨rfl, rfl, rfl, Nat.le_refl _, fun _ _ _ => rfl⟩⟩
  clear hbe hz1 hz0 hs1 hgr hdb hw1 hmk b3
  go_loopw [16] (fun vx wr => ∃ k : Nat, k ≤ n ∧ vx = .int .i64 (k : Int) ∧ Hid (ShI w1 db n k wr)) (fun vx _ => n - (intOf vx).toNat)
  case atStart => exact ⟨0, by omega, rfl, HI0⟩
  case round =>
    clear HI0
    obtain ⟨k, hk, rfl, HJ⟩ := hrel
    by_cases hx : k < n
    case neg =>
      have hx' : ¬ (k : Int) < (n : Int) := by omega
      obtain rfl : k = n := by omega
      obtain ⟨hb1, hz0, hsz, hgr, hdb⟩ := H1.out
      obtain ⟨cur, hcur, hc1, hc2, hg⟩ := HJ.out
      -- the world behind the loop stands over the first one
      have hbr : Below w.heap.size w wr := ⟨hg.os.trans hb1.os, hg.tape.trans hb1.tape, hg.output.trans hb1.output, Nat.le_trans hb1.size hg.size, fun j hj => (hg.block j (Nat.lt_of_lt_of_le hj hb1.size) (fun q => by injection q with q; omega)).trans (hb1.block j hj)⟩
      have hzr : wr.heap[gr]? = some (.cells #[.pointer none, .nilIface, .slice none 0 0] 52 (0, 0)) := (hg.block gr (by omega) (fun q => by injection q with q; omega)).trans hz0
      have hBr := HS.out.2.2.2.on hbr
      have b3 := hBr.b3
      rw [Hn.out] at b3
      have hDr : Dk wr db (List.range k) := ⟨cur, hcur, fun j x hx => by
        have hj : j < k := by
          have := (List.getElem?_eq_some_iff.1 hx).1
          rwa [List.length_range] at this
        rw [List.getElem?_range hj] at hx
        obtain rfl : j = x := by injection hx
        exact ⟨hc2 j hj, hc1 _ (by omega)⟩⟩
      -- the levels and the light
      obtain ⟨w2, hw2⟩ : ∃ w2, (wr.alloc (.cells (vals (List.replicate k 0)) 5)).alloc (.cells #[.pointer (some ⟨e.p, 0, none⟩), .iface U (.agg #[.pointer (some ⟨e.p, 0, none⟩)]), .slice (some ⟨wr.heap.size, 0, none⟩) k k] 52) = w2 := ⟨_, rfl⟩
      have hbe2 := below_two wr (.cells (vals (List.replicate k 0)) 5) (.cells #[.pointer (some ⟨e.p, 0, none⟩), .iface U (.agg #[.pointer (some ⟨e.p, 0, none⟩)]), .slice (some ⟨wr.heap.size, 0, none⟩) k k] 52)
      have hq2 := new_two wr (.cells (vals (List.replicate k 0)) 5) (.cells #[.pointer (some ⟨e.p, 0, none⟩), .iface U (.agg #[.pointer (some ⟨e.p, 0, none⟩)]), .slice (some ⟨wr.heap.size, 0, none⟩) k k] 52)
      have hg2 : w2.heap[wr.heap.size]? = some (.cells (vals (List.replicate k 0)) 5 (0, 0)) := by
        rw [← hw2]
        exact (heap_alloc_old _ _ (by simp)).trans (heap_alloc_new wr _)
      rw [hw2] at hbe2 hq2
      obtain ⟨gB, hgB⟩ : ∃ gB, wr.heap.size = gB := ⟨_, rfl⟩
      obtain ⟨qB, hqB⟩ : ∃ qB, wr.heap.size + 1 = qB := ⟨_, rfl⟩
      have hps := World.block_lt_of_cell? wr _ hBr.b0
      have hks := hBr.kp.lt
      have hts : 0 < wr.heap.size := by omega
      rw [hqB] at hq2
      rw [hgB] at hg2 hq2 hps hks hts
      have o' : LO { e with q := qB, o := 0, g := gB, lc := k } := ⟨HS.out.1, HS.out.2.1, HS.out.2.2.1, by have hps : e.p < gB := hps; show gB ≠ e.p; omega, by show gB ≠ qB; omega, by show gB ≠ e.kb; omega, by show 0 < gB; omega⟩
      have hM' : LM { e with q := qB, o := 0, g := gB, lc := k } w2 := by
        refine ⟨⟨(hBr.on hbe2).b0, (hBr.on hbe2).b1, (hBr.on hbe2).b2, (hBr.on hbe2).b3, (hBr.on hbe2).kp, (hBr.on hbe2).tb⟩, (cell_of_row w2 qB 0 _ 52 (0, 0) hq2).trans rfl, (cell_of_row w2 qB 1 _ 52 (0, 0) hq2).trans ?_, (cell_of_row w2 qB 2 _ 52 (0, 0) hq2).trans ?_⟩
        · show some (Value.iface U _) = some e.src
          rw [HSV.out]
        · show some (Value.slice (some ⟨gB, 0, none⟩) k k) = some (.slice (some ⟨gB, 0, none⟩) (e.W * e.D * e.T) k)
          rw [show e.W * e.D * e.T = k from Hn.out]
      have hP' : Pre w2 gB 5 (List.replicate k 0) := blk_pre hg2
      have hl0 : ∀ i, (List.replicate k (0 : Int)).getD i 0 = 0 := fun i => by
        rw [List.getD_eq_getElem?_getD, List.getElem?_replicate]
        split <;> rfl
      have hli : li (List.replicate k 0) = fun _ => 0 := by
        funext i
        unfold li
        rw [hl0]; rfl
      have hrd : L.Ready (LE.sys { e with q := qB, o := 0, g := gB, lc := k } o'.bx) (li (List.replicate k 0)) (List.range k) := by
        have := L.ready_all (LE.sys { e with q := qB, o := 0, g := gB, lc := k } o'.bx)
        rw [sys_n, show ({ e with q := qB, o := 0, g := gB, lc := k } : LE).n = k from Hn.out] at this
        rw [hli]
        exact this
      have hRl := relight_c { e with q := qB, o := 0, g := gB, lc := k } o' (List.replicate k 0) (by rw [List.length_replicate]; exact Hn.out.symm) (fun i => by rw [hl0]; omega) (List.range k) (fun x hx => by rw [List.mem_range] at hx; show x < e.W * e.D * e.T; rw [show e.W * e.D * e.T = k from Hn.out]; exact hx) (by rw [List.length_range]; omega) hrd db k w2 hM' hP' (hDr.on hbe2)
      rw [List.length_range] at hRl
      have HRl : Hid (Calls Tryd.prog 23 #[.pointer (some ⟨qB, 0, none⟩), .slice (some ⟨db, 0, none⟩) k k] w2 fun x w' => x = .returned (.tuple #[]) ∧ ∃ ls', LightOf (e.sys hbx) e.n ls' ∧ Pre w' gB 5 ls' ∧ w2.grownBy w' (some gB)) := hRl
      have HX : Hid (Below w.heap.size w w2 ∧ w2.heap[qB]? = some (.cells #[.pointer (some ⟨e.p, 0, none⟩), .iface U (.agg #[.pointer (some ⟨e.p, 0, none⟩)]), .slice (some ⟨gB, 0, none⟩) k k] 52 (0, 0)) ∧ w2.heap[gr]? = some (.cells #[.pointer none, .nilIface, .slice none 0 0] 52 (0, 0)) ∧ gr ≠ qB ∧ gr ≠ gB ∧ w.heap.size ≤ gB ∧ w.heap.size = gr) := ⟨hbr.trans (hbe2.mono hbr.size), hq2, (hbe2.block _ (by have := (Array.getElem?_eq_some_iff.1 hzr).1; exact this)).trans hzr, by have := (Array.getElem?_eq_some_iff.1 hzr).1; omega, by have := (Array.getElem?_eq_some_iff.1 hzr).1; omega, by have := hbr.size; omega, hgr⟩
      have HW2 : Hid ((wr.alloc (.cells (vals (List.replicate k 0)) 5)).alloc (.cells #[.pointer (some ⟨e.p, 0, none⟩), .iface U (.agg #[.pointer (some ⟨e.p, 0, none⟩)]), .slice (some ⟨wr.heap.size, 0, none⟩) k k] 52) = w2) := hw2
      have HNq : Hid (gB ≠ qB) := by show gB ≠ qB; omega
      have HG : Hid (wr.heap.size = gB ∧ wr.heap.size + 1 = qB) := ⟨hgB, hqB⟩
      clear hRl hrd hli hl0 hP' hM' o' hq2 hg2 hbe2 hw2 hDr hBr hzr hbr hcur hc1 hc2 hg HJ hb1 hz0 hsz hgr hgB hqB hps hks hts
      go_upto_region 8 with fail
      rw [HW2.out, HG.out.2, HG.out.1]
      clear HW2 HG hmb b3
      go_wp2_with fail
      refine HRl.out.mono ?_
      rintro _ w3 ⟨rfl, ls', hL', hP3, hg3⟩
      obtain ⟨hX1, hX2, hX3, n1, n2, n3, n4⟩ := HX.out
      have hq3 : w3.heap[qB]? = some (.cells #[.pointer (some ⟨e.p, 0, none⟩), .iface U (.agg #[.pointer (some ⟨e.p, 0, none⟩)]), .slice (some ⟨gB, 0, none⟩) k k] 52 (0, 0)) := (hg3.block qB (Array.getElem?_eq_some_iff.1 hX2).1 (fun q => by
        injection q with q
        exact HNq.out q.symm)).trans hX2
      have hr3 : w3.heap[gr]? = some (.cells #[.pointer none, .nilIface, .slice none 0 0] 52 (0, 0)) := (hg3.block gr (Array.getElem?_eq_some_iff.1 hX3).1 (fun q => by injection q with q; exact n2 q)).trans hX3
      have c0 : w3.cell? ⟨qB, 0, none⟩ = some (.pointer (some ⟨e.p, 0, none⟩)) := (cell_of_row w3 qB 0 _ 52 (0, 0) hq3).trans rfl
      have c1 : w3.cell? ⟨qB, 1, none⟩ = some (.iface U (.agg #[.pointer (some ⟨e.p, 0, none⟩)])) := (cell_of_row w3 qB 1 _ 52 (0, 0) hq3).trans rfl
      have c2 : w3.cell? ⟨qB, 2, none⟩ = some (.slice (some ⟨gB, 0, none⟩) k k) := (cell_of_row w3 qB 2 _ 52 (0, 0) hq3).trans rfl
      have d0 : w3.cell? ⟨gr, 0, none⟩ = some (.pointer none) := (cell_of_row w3 gr 0 _ 52 (0, 0) hr3).trans rfl
      have d1 : w3.cell? ⟨gr, 1, none⟩ = some .nilIface := (cell_of_row w3 gr 1 _ 52 (0, 0) hr3).trans rfl
      have d2 : w3.cell? ⟨gr, 2, none⟩ = some (.slice none 0 0) := (cell_of_row w3 gr 2 _ 52 (0, 0) hr3).trans rfl
      have f0 : ∀ j, w3.frozen? ⟨gr, j, none⟩ = false := fun j => frozen_of_row w3 gr j _ 52 hr3
      have HF : Hid (∀ w4, w4 = ((w3.setCell ⟨gr, 0, none⟩ (.pointer (some ⟨e.p, 0, none⟩))).setCell ⟨gr, 1, none⟩ (.iface U (.agg #[.pointer (some ⟨e.p, 0, none⟩)]))).setCell ⟨gr, 2, none⟩ (.slice (some ⟨gB, 0, none⟩) k k) → w4.heap[gr]? = some (.cells #[.pointer (some ⟨e.p, 0, none⟩), .iface U (.agg #[.pointer (some ⟨e.p, 0, none⟩)]), .slice (some ⟨gB, 0, none⟩) k k] 52 (0, 0)) ∧ Post (.returned (.agg #[.pointer (some ⟨e.p, 0, none⟩), .iface U (.agg #[.pointer (some ⟨e.p, 0, none⟩)]), .slice (some ⟨gB, 0, none⟩) k k])) w4) := fun w4 h4 => by
        have hrow : w4.heap[gr]? = some (.cells #[.pointer (some ⟨e.p, 0, none⟩), .iface U (.agg #[.pointer (some ⟨e.p, 0, none⟩)]), .slice (some ⟨gB, 0, none⟩) k k] 52 (0, 0)) := by
          rw [h4]
          exact heap_setCell_same _ gr 2 _ 52 _ (heap_setCell_same _ gr 1 _ 52 _ (heap_setCell_same w3 gr 0 _ 52 _ hr3))
        refine ⟨hrow, ?_⟩
        have := HP.out gB ls' w4 hL' ?_ ?_ n3
        · rw [HSV.out, Hn.out] at this
          exact this
        · obtain ⟨cu, hcu, hrr⟩ := hP3
          refine ⟨cu, ?_, hrr⟩
          rw [h4]
          exact (Below.heap_setCell _ ⟨gr, 2, none⟩ _ gB (Ne.symm n2)).trans ((Below.heap_setCell _ ⟨gr, 1, none⟩ _ gB (Ne.symm n2)).trans ((Below.heap_setCell w3 ⟨gr, 0, none⟩ _ gB (Ne.symm n2)).trans hcu))
        · rw [h4]
          have hb3 : Below w.heap.size w w3 := ⟨hg3.os.trans hX1.os, hg3.tape.trans hX1.tape, hg3.output.trans hX1.output, Nat.le_trans hX1.size hg3.size, fun j hj => (hg3.block j (Nat.lt_of_lt_of_le hj hX1.size) (fun q => by injection q with q; omega)).trans (hX1.block j hj)⟩
          exact ((hb3.setCell (p := ⟨gr, 0, none⟩) (Nat.le_of_eq n4) _).setCell (p := ⟨gr, 1, none⟩) (Nat.le_of_eq n4) _).setCell (p := ⟨gr, 2, none⟩) (Nat.le_of_eq n4) _
      clear HRl HX hL' hP3 hg3 hq3 hr3 hX1 hX2 hX3 n1 n2 n3 n4 HP HS
      go_wp2_with fail
      obtain ⟨hrow, R⟩ := HF.out _ rfl
      exact bodyPost_ret (results_cell_row rfl _ _ gr 52 _ (0, 0) _ rfl hrow Tryd.underlying52 rfl (by kernel_rfl)) rfl R
    have hx' : (k : Int) < (n : Int) := by omega
    obtain ⟨cur, hcur, hc1, hc2, hg⟩ := HJ.out
    obtain ⟨hv, hhv⟩ := hc1 (k * 2) (by omega)
    have x0 : wr.cell? ⟨db, k * 2, none⟩ = some (.int .i64 hv) := (cell_of_row wr db _ cur 64 (0, 0) hcur).trans hhv
    have f0 : wr.frozen? ⟨db, k * 2, none⟩ = false := frozen_of_row wr db _ cur 64 hcur
    have wk : IntKind.i64.wrap ((k : Int) + 1) = ((k + 1 : Nat) : Int) := by rw [IntKind.wrap_i64]; omega
    have HE : Hid (ShI w1 db n (k + 1) (wr.setCell ⟨db, k * 2, none⟩ (.int .i64 (k : Int)))) := by
      refine ⟨_, heap_setCell_same wr db (k * 2) _ 64 _ hcur, fun j hj => ?_, fun j hj => ?_, ⟨hg.os, hg.tape, hg.output, by have := hg.size; simpa [World.setCell] using this, fun j hj hne => (Below.heap_setCell wr ⟨db, k * 2, none⟩ _ j (fun q => hne (by have q : j = db := q; rw [q]))).trans (hg.block j hj hne)⟩⟩
      · by_cases q : k * 2 = j
        · subst q
          rw [Array.getElem?_setIfInBounds_self_of_lt (Array.getElem?_eq_some_iff.1 hhv).1]
          exact ⟨_, rfl⟩
        · rw [Array.getElem?_setIfInBounds_ne q]
          exact hc1 j hj
      · by_cases q : k = j
        · subst q
          exact Array.getElem?_setIfInBounds_self_of_lt (Array.getElem?_eq_some_iff.1 hhv).1
        · rw [Array.getElem?_setIfInBounds_ne (by omega)]
          exact hc2 j (by omega)
    have hk2 : k * 2 < 9223372036854775807 := by omega
    clear HJ hcur hc1 hc2 hg hhv hmb
    go_wp2
    exact ⟨⟨k + 1, by omega, rfl, HE⟩, by simp [intOf]; omega⟩
end Go.Proofs.YtmfjmcaaoljjlaaDoor
