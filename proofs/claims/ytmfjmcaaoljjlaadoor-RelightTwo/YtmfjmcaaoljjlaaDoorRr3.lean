/-
  The landed relight, walked.
-/
import Derived.Test.YtmfjmcaaoljjlaaDoorRr2
set_option maxRecDepth 20000
namespace Go.Proofs.YtmfjmcaaoljjlaaDoor
open C Go.RowKit L
attribute [local go_sem] Oper.semAt_some

/-- What the region of an append reads. -/
structure ReadsW (gw v bs : Nat) (sl x : Value) (w : World) : Prop where
  s : w.cell? ⟨gw, v, none⟩ = some sl
  a : w.cell? ⟨bs, 0, none⟩ = some x
/-- The first loop: the first k dark cells wait. -/
def R1I (e : LE) (o : LO e) (B : World) (gw bx : Nat) (ls : List Int) (dk : List Nat) (k : Nat) (w : World) : Prop := ∃ wait av cv, Put1 (e.sys o.bx) (li ls) dk k wait ∧ Rq e B gw bx ls wait av cv w ∧ ∀ v, (wait v).length ≤ k
/-- The loop over the levels. -/
def R2I (e : LE) (o : LO e) (B : World) (gw bx b8 : Nat) (level : Nat) (w : World) : Prop := ∃ ls wait av cv, Rl (e.sys o.bx) Ev (li ls) wait level 0 ∧ Rq e B gw bx ls wait av cv w ∧ (∀ v, (wait v).length ≤ 5000000 + 6 * sumL ls) ∧ w.heap[b8]? = some (.cells #[.int .i64 (level : Int)] 3 (0, 0)) ∧ ∀ v, v < 16 → Value.ownBlock (slW av cv (wI wait) v) ≠ some b8
/-- The loop over a level's cells. -/
def R3I (e : LE) (o : LO e) (B : World) (gw bx b8 : Nat) (level k : Nat) (wl : List Nat) (al : Option Addr) (cl : Nat) (w : World) : Prop := ∃ ls wait av cv, Rl (e.sys o.bx) Ev (li ls) wait level k ∧ Rq e B gw bx ls wait av cv w ∧ (∀ v, (wait v).length ≤ 5000000 + 6 * sumL ls) ∧ w.heap[b8]? = some (.cells #[.int .i64 (level : Int)] 3 (0, 0)) ∧ (∀ v, v < 16 → Value.ownBlock (slW av cv (wI wait) v) ≠ some b8) ∧ wait level = wl ∧ av level = al ∧ cv level = cl
def lvOf (v : Value) (w : World) : Nat := match v with
  | .pointer (some a) => (intOf ((w.cell? a).getD undef)).toNat
  | _ => 0
theorem nbl_len (W D T i : Nat) : (nbl W D T i).length ≤ 6 := Nat.le_trans (List.length_filterMap_le _ _) (by rw [List.length_range]; exact Nat.le_refl _)
theorem sumL_le {ls : List Int} {n : Nat} (h : Lv ls) (hl : ls.length = n) (hn : n ≤ 294912) : sumL ls ≤ 4423680 := by
  have := sum_le ls h.mem
  omega
set_option maxRecDepth 1000000 in
set_option maxHeartbeats 16000000 in
theorem relight_c (e : LE) (o : LO e) (ls : List Int) (hll : ls.length = e.n) (hlv : Lv ls) (dk : List Nat) (hdk : ∀ x ∈ dk, x < e.n) (hdl : dk.length ≤ 5000000) (hrd : Ready (e.sys o.bx) (li ls) dk) (db dc : Nat) (w : World) (hM : LM e w) (hp : Pre w e.g 5 ls) (hD : Dk w db dk) :
    Calls Tryd.prog 23 #[.pointer (some ⟨e.q, e.o, none⟩), .slice (some ⟨db, 0, none⟩) dk.length dc] w fun x w' => x = .returned (.tuple #[]) ∧ ∃ ls', LightOf (e.sys o.bx) e.n ls' ∧ Pre w' e.g 5 ls' ∧ w.grownBy w' (some e.g) := by
  obtain ⟨Post, hPost⟩ : ∃ Post : Ending → World → Prop, Post = fun x w' => x = .returned (.tuple #[]) ∧ ∃ ls', LightOf (e.sys o.bx) e.n ls' ∧ Pre w' e.g 5 ls' ∧ w.grownBy w' (some e.g) := ⟨_, rfl⟩
  rw [← hPost]
  have HP : Hid (∀ w' ls', LightOf (e.sys o.bx) e.n ls' → Pre w' e.g 5 ls' → w.grownBy w' (some e.g) → Post (.returned (.tuple #[])) w') := fun w' ls' h1 h2 h3 => by rw [hPost]; exact ⟨rfl, ls', h1, h2, h3⟩
  clear hPost
  have HM : Hid (LM e w ∧ Pre w e.g 5 ls ∧ Dk w db dk) := ⟨hM, hp, hD⟩
  have HS : Hid (ls.length = e.n ∧ Lv ls ∧ (∀ x ∈ dk, x < e.n) ∧ dk.length ≤ 5000000 ∧ Ready (e.sys o.bx) (li ls) dk) := ⟨hll, hlv, hdk, hdl, hrd⟩
  have hz := zero70
  obtain ⟨Z, hZ⟩ : ∃ Z, (List.replicate 16 slZ).toArray = Z := ⟨_, rfl⟩
  rw [hZ] at hz
  have hnD : e.g ≠ db := fun q => by
    obtain ⟨c1, h1, _⟩ := hp
    obtain ⟨c2, h2, _⟩ := hD
    rw [q, h2] at h1
    cases h1
  have HnD : Hid (e.g ≠ db) := hnD
  obtain ⟨bx, hbx⟩ : ∃ bx, w.heap.size = bx := ⟨_, rfl⟩
  obtain ⟨gw, hgw⟩ : ∃ gw, w.heap.size + 1 = gw := ⟨_, rfl⟩
  have HB : Hid (R1I e o w gw bx ls dk 0 ((w.alloc (.cells #[.pointer (some ⟨e.q, e.o, none⟩)] 67)).alloc (.cells Z 70))) := by
    have hb := below_two w (.cells #[.pointer (some ⟨e.q, e.o, none⟩)] 67) (.cells Z 70)
    refine ⟨fun _ => [], fun _ => none, fun _ => 0, Put1.start _ _ _, ⟨hll, hlv, hp.on hb, ?_, grown_below ⟨rfl, rfl, rfl, Nat.le_refl _, fun _ _ _ => rfl⟩ hb, ?_⟩, fun v => Nat.le_refl _⟩
    · refine wv_start ?_ (by omega)
      rw [hZ, ← hgw]
      exact new_two w _ _
    · rw [← hbx]
      exact (heap_alloc_old _ _ (by simp)).trans (heap_alloc_new w _)
  have hdn : (dk.length : Int) ≤ 5000000 := by omega
  obtain ⟨N, hN⟩ : ∃ N, dk.length = N := ⟨_, rfl⟩
  have HN : Hid (dk.length = N) := hN
  rw [hN] at hdn ⊢
  clear hM hp hD hll hlv hdk hdl hrd hnD hN hZ
  go_enter Tryd.func23, Tryd.ntmps23
  go_wp2_with fail
  rw [hbx] at *
  rw [hgw] at *
  clear hz
  generalize (w.alloc (.cells #[.pointer (some ⟨e.q, e.o, none⟩)] 67)).alloc (.cells Z 70) = w0 at *
  go_loopw [13] (fun vx wr => ∃ k : Nat, k ≤ N ∧ vx = .int .i64 (k : Int) ∧ Hid (R1I e o w gw bx ls dk k wr)) (fun vx _ => N - (intOf vx).toNat)
  case atStart => exact ⟨0, by omega, rfl, HB⟩
  case round =>
    clear HB
    obtain ⟨k, hk, rfl, HJ⟩ := hrel
    by_cases hx : k < N
    case neg =>
      have hx' : ¬ (k : Int) < (N : Int) := by omega
      have HA : Hid (R2I e o w gw bx wr.heap.size 15 (wr.alloc (.cells #[.int .i64 15] 3))) := by
        obtain ⟨wait, av, cv, h1, h2, h3⟩ := HJ.out
        obtain rfl : k = N := by omega
        have hb : Below wr.heap.size wr (wr.alloc (.cells #[.int .i64 15] 3)) := (Below.refl _ _).alloc (Nat.le_refl _) _
        refine ⟨ls, wait, av, cv, Rl.start HS.out.2.2.2.2 (by rw [HN.out]; exact h1), h2.on hb, fun v => ?_, heap_alloc_new _ _, fun v hv q => ?_⟩
        · have := h3 v
          have := HS.out.2.2.2.1
          have := HN.out
          omega
        · obtain ⟨_, cu, hcu⟩ := own_block (h2.wv.own v hv) q
          have := (Array.getElem?_eq_some_iff.1 hcu).1
          omega
      clear HJ
      go_wp2_with fail
      generalize wr.alloc (.cells #[.int .i64 15] 3) = w1 at *
      generalize wr.heap.size = b0 at *
      go_loopw [8] (fun vx wr => ∃ b level : Nat, level ≤ 15 ∧ vx = .pointer (some ⟨b, 0, none⟩) ∧ lvOf vx wr = level ∧ Hid (R2I e o w gw bx b level wr)) (fun vx w => lvOf vx w)
      case atStart => exact ⟨b0, 15, by omega, rfl, by
        obtain ⟨ls1, wait, av, cv, h1, h2, h3, h4, h5⟩ := HA.out
        have x8 : w1.cell? ⟨b0, 0, none⟩ = some (.int .i64 15) := (cell_of_row w1 b0 0 _ 3 (0, 0) h4).trans rfl
        simp [lvOf, x8, intOf], HA⟩
      case round =>
        clear HA
        obtain ⟨b8, level, l15, rfl, hlv, HL⟩ := hrel
        have x8 : wr.cell? ⟨b8, 0, none⟩ = some (.int .i64 (level : Int)) := by
          obtain ⟨ls1, wait, av, cv, h1, h2, h3, h4, h5⟩ := HL.out
          exact (cell_of_row wr b8 0 _ 3 (0, 0) h4).trans rfl
        by_cases h0 : 0 < level
        case neg =>
          obtain rfl : level = 0 := by omega
          have R : Post (.returned (.tuple #[])) wr := by
            obtain ⟨ls1, wait, av, cv, h1, h2, h3, h4, h5⟩ := HL.out
            exact HP.out wr ls1 ⟨h2.len, h2.lv, h1.told (fun i hi => src_out o.bx (by rwa [sys_n] at hi))⟩ h2.pl h2.gr
          clear HL HP HS HM HN HnD
          have x8' : wr.cell? ⟨b8, 0, none⟩ = some (.int .i64 0) := x8
          clear x8
          go_wp2
          exact bodyPost_end (results_none rfl _ _ _) rfl R
        have h0' : (0 : Int) < (level : Int) := by omega
        have l16 : (level : Int) < 16 := by omega
        have HLv : Hid (level ≤ 15 ∧ 0 < level) := ⟨l15, h0⟩
        obtain ⟨ls1, wait, av, cv, h1, h2, h3, h4, h5⟩ := HL.out
        obtain ⟨wl, hwl⟩ : ∃ wl, wait level = wl := ⟨_, rfl⟩
        obtain ⟨al, hal⟩ : ∃ al, av level = al := ⟨_, rfl⟩
        obtain ⟨cl, hcl⟩ : ∃ cl, cv level = cl := ⟨_, rfl⟩
        have HA : Hid (R3I e o w gw bx b8 level 0 wl al cl wr) := ⟨ls1, wait, av, cv, h1, h2, h3, h4, h5, hwl, hal, hcl⟩
        have cs := h2.wv.out level (by omega)
        unfold slW wI at cs
        rw [hwl, hal, hcl, List.length_map] at cs
        have hwb : wl.length ≤ 31542080 := by
          have q1 := h3 level
          rw [hwl] at q1
          have q2 := sumL_le h2.lv h2.len o.nb
          omega
        have Hwb : Hid (wl.length ≤ 31542080) := hwb
        obtain ⟨M, hMM⟩ : ∃ M, wl.length = M := ⟨_, rfl⟩
        have HMl : Hid (wl.length = M) := hMM
        rw [hMM] at cs hwb
        clear h1 h2 h3 h4 h5 hwl hal hcl hMM HL
        go_wp2_with fail
        clear cs x8
        go_loopw [39] (fun vx wr => ∃ k : Nat, k ≤ M ∧ vx = .int .i64 (k : Int) ∧ Hid (R3I e o w gw bx b8 level k wl al cl wr)) (fun vx _ => M - (intOf vx).toNat)
        case atStart => exact ⟨0, by omega, rfl, HA⟩
        case round =>
          clear HA
          obtain ⟨k3, hk3, rfl, HJ⟩ := hrel
          have x8 : wr.cell? ⟨b8, 0, none⟩ = some (.int .i64 (level : Int)) := by
            obtain ⟨ls1, wait, av, cv, h1, h2, h3, h4, h5⟩ := HJ.out
            exact (cell_of_row wr b8 0 _ 3 (0, 0) h4).trans rfl
          by_cases h3 : k3 < M
          case neg =>
            have h3' : ¬ (k3 : Int) < (M : Int) := by omega
            have wlv : IntKind.i64.wrap ((level : Int) - 1) = ((level - 1 : Nat) : Int) := by rw [IntKind.wrap_i64]; omega
            have hb : Below wr.heap.size wr (wr.alloc (.cells #[.int .i64 ((level - 1 : Nat) : Int)] 3)) := (Below.refl _ _).alloc (Nat.le_refl _) _
            have hnew := heap_alloc_new wr (.cells #[.int .i64 ((level - 1 : Nat) : Int)] 3)
            have HE : Hid (R2I e o w gw bx wr.heap.size (level - 1) (wr.alloc (.cells #[.int .i64 ((level - 1 : Nat) : Int)] 3))) := by
              obtain ⟨ls1, wait, av, cv, h1, h2, hs3, h4, h5, h6, h7, h8⟩ := HJ.out
              obtain ⟨q, rfl⟩ : ∃ q, level = q + 1 := ⟨level - 1, by omega⟩
              refine ⟨ls1, wait, av, cv, h1.down (by rw [h6, HMl.out]; omega), h2.on hb, hs3, hnew, fun v hv q => ?_⟩
              obtain ⟨_, cu, hcu⟩ := own_block (h2.wv.own v hv) q
              have := (Array.getElem?_eq_some_iff.1 hcu).1
              omega
            have x9 : (wr.alloc (.cells #[.int .i64 ((level - 1 : Nat) : Int)] 3)).cell? ⟨wr.heap.size, 0, none⟩ = some (.int .i64 ((level - 1 : Nat) : Int)) := (cell_of_row _ _ 0 _ 3 (0, 0) hnew).trans rfl
            have hl9 : lvOf (.pointer (some ⟨wr.heap.size, 0, none⟩)) (wr.alloc (.cells #[.int .i64 ((level - 1 : Nat) : Int)] 3)) = level - 1 := by
              show (intOf (((wr.alloc (.cells #[.int .i64 ((level - 1 : Nat) : Int)] 3)).cell? ⟨wr.heap.size, 0, none⟩).getD undef)).toNat = level - 1
              rw [x9]
              show ((level - 1 : Nat) : Int).toNat = level - 1
              omega
            have Hl9 : Hid (lvOf (.pointer (some ⟨wr.heap.size, 0, none⟩)) (wr.alloc (.cells #[.int .i64 ((level - 1 : Nat) : Int)] 3)) = level - 1) := hl9
            clear HJ hb hnew x9 hl9
            go_wp2_with fail
            exact ⟨⟨_, level - 1, by omega, rfl, Hl9.out, HE⟩, by rw [Hl9.out, hlv]; omega⟩
          have h3' : (k3 : Int) < (M : Int) := by omega
          obtain ⟨ls1, wait, av, cv, h1, h2, hs3, h4, h5, h6, h7, h8⟩ := HJ.out
          -- the cell that waits
          obtain ⟨m, hm⟩ : ∃ m, wl[k3]? = some m := ⟨wl[k3]'(by rw [HMl.out]; exact h3), List.getElem?_eq_getElem _⟩
          have hmn : m < e.n ∧ (wait level)[k3]? = some m := by
            rw [h6]
            refine ⟨?_, hm⟩
            have := (h1.good level m (by rw [h6]; exact List.mem_of_getElem? hm)).1
            rwa [sys_n] at this
          obtain ⟨gl, hgl, xl⟩ := own_at (h2.wv.own level (by omega)) (k := k3) (y := (m : Int)) (by unfold wI; rw [List.getElem?_map, hmn.2]; rfl)
          rw [h7] at hgl
          have hM := h2.lm o HM.out.1
          have xb : wr.cell? ⟨bx, 0, none⟩ = some (.pointer (some ⟨e.q, e.o, none⟩)) := (cell_of_row wr bx 0 _ 67 (0, 0) h2.hb).trans rfl
          have y2 := hM.l2
          have cl1 := h2.pl.cell (k := m) (by rw [h2.len]; exact hmn.1)
          have hlj := h2.lv m
          have hfz : wr.frozen? ⟨e.g, m, none⟩ = false := by
            obtain ⟨cu, hcu, _⟩ := h2.pl
            exact frozen_of_row wr e.g m cu 5 hcu
          obtain ⟨A, hA⟩ : ∃ A, ls1.getD m 0 = A := ⟨_, rfl⟩
          have HAA : Hid (ls1.getD m 0 = A) := hA
          rw [hA] at cl1 hlj
          obtain ⟨a0, a15⟩ := hlj
          have Hmn : Hid (m < e.n ∧ (wait level)[k3]? = some m) := hmn
          have hnb := o.nb
          obtain ⟨n, hnn⟩ : ∃ n, e.n = n := ⟨_, rfl⟩
          have hmn2 := hmn.1
          rw [hnn] at y2 hmn2 hnb
          have hmi : (m : Int) < (n : Int) := by omega
          have H3 : Hid (Rl (e.sys o.bx) Ev (li ls1) wait level k3 ∧ Rq e w gw bx ls1 wait av cv wr ∧ (∀ v, (wait v).length ≤ 5000000 + 6 * sumL ls1) ∧ wr.heap[b8]? = some (.cells #[.int .i64 (level : Int)] 3 (0, 0)) ∧ (∀ v, v < 16 → Value.ownBlock (slW av cv (wI wait) v) ≠ some b8) ∧ wait level = wl ∧ av level = al ∧ cv level = cl) := ⟨h1, h2, hs3, h4, h5, h6, h7, h8⟩
          subst hgl
          clear h1 h2 hs3 h4 h5 h6 h7 h8 hm hmn hM hA hnn HJ
          go_wp2_with fail
          go_quiet (fail)
          have HQ : Hid (Rq e w gw bx ls1 wait av cv (wr.drewN nq) ∧ (wr.drewN nq).heap[b8]? = some (.cells #[.int .i64 (level : Int)] 3 (0, 0))) := ⟨H3.out.2.1.on (below_drewN (Below.refl _ _) _), H3.out.2.2.2.1⟩
          by_cases hge : (level : Int) ≤ A
          case pos =>
            have HE : Hid (R3I e o w gw bx b8 level (k3 + 1) wl (some ⟨gl, 0, none⟩) cl (wr.drewN nq)) := by
              obtain ⟨h1, h2, hs3, h4, h5, h6, h7, h8⟩ := H3.out
              refine ⟨ls1, wait, av, cv, h1.skip Hmn.out.2 ?_, HQ.out.1, hs3, HQ.out.2, h5, h6, h7, h8⟩
              unfold li
              rw [HAA.out]
              omega
            clear H3 HQ HAA Hmn HLv
            go_wp2
            exact ⟨⟨k3 + 1, by omega, rfl, HE⟩, by simp [intOf]; omega⟩
          have hge' : A < (level : Int) := by omega
          have wl8 : IntKind.u8.wrap (level : Int) = (level : Int) := wrap8 (by omega) (by omega)
          go_wp2_with fail
          refine wp_region_tail 8 (by kernel_rfl) (by kernel_rfl) ?_
          simp only [List.take_succ_cons, List.take_zero, List.drop_succ_cons, List.drop_zero]
          repeat still_step
          refine wpStill_nil ?_
          clear xl
          go_upto_region 16 with fail
          have hlt : li ls1 m < level := by
            unfold li
            rw [HAA.out]
            omega
          have HR1 : Hid (RI ⟨e, w, gw, bx, b8, level, k3 + 1, 5000000 + 6 * sumL ls1, m, ls1.set m (level : Int), wl, some ⟨gl, 0, none⟩, cl⟩ o [] ((wr.drewN (nq + 1)).setCell ⟨e.g, m, none⟩ (.int .u8 (level : Int)))) := by
            obtain ⟨h1, h2, hs3, h4, h5, h6, h7, h8⟩ := H3.out
            have hd : Rq e w gw bx ls1 wait av cv (wr.drewN (nq + 1)) := h2.on (below_drewN (Below.refl _ _) _)
            refine ⟨wait, av, cv, ?_, hd.light Hmn.out.1 HLv.out.1, fun v => hs3 v, ⟨h6, h7, h8⟩, ?_, h5⟩
            · have := h1.set Hmn.out.2 hlt
              show Rl _ _ (li (ls1.set m (level : Int))) wait level (k3 + 1)
              rw [li_set (by rw [h2.len]; exact Hmn.out.1)]
              exact this
            · refine (Below.heap_setCell _ ⟨e.g, m, none⟩ _ b8 (fun q => ?_)).trans (show (wr.drewN (nq + 1)).heap[b8]? = _ from h4)
              have q : b8 = e.g := q
              obtain ⟨cu, hcu, _⟩ := h2.pl
              rw [q, hcu] at h4
              cases h4
          have HOk : Hid (ROk ⟨e, w, gw, bx, b8, level, k3 + 1, 5000000 + 6 * sumL ls1, m, ls1.set m (level : Int), wl, some ⟨gl, 0, none⟩, cl⟩ o) := by
            have h2 := H3.out.2.1
            refine ⟨HM.out.1, HLv.out.2, HLv.out.1, Hmn.out.1, ?_, ?_⟩
            · show li (ls1.set m (level : Int)) m = level
              rw [li_set (by rw [h2.len]; exact Hmn.out.1), upd_same]
            · show 5000000 + 6 * sumL ls1 + 6 ≤ 90000000
              have := sumL_le h2.lv h2.len o.nb
              omega
          have Hsum : Hid (sumL ls1 + 1 ≤ sumL (ls1.set m (level : Int))) := sum_set ls1 m (level : Int) (by rw [H3.out.2.1.len]; exact Hmn.out.1) (by rw [HAA.out]; exact hge') (by rw [HAA.out]; exact a0)
          generalize (wr.drewN (nq + 1)).setCell ⟨e.g, m, none⟩ (.int .u8 (level : Int)) = w5 at *
          have hq5 : Rq e w gw bx (ls1.set m (level : Int)) wait av cv w5 ∨ True := .inr trivial
          clear hq5
          have xb5 : w5.cell? ⟨bx, 0, none⟩ = some (.pointer (some ⟨e.q, e.o, none⟩)) := by
            obtain ⟨wait2, av2, cv2, _, h2, _⟩ := HR1.out
            exact (cell_of_row w5 bx 0 _ 67 (0, 0) h2.hb).trans rfl
          have y5 : w5.cell? ⟨e.q, e.o, none⟩ = some (.pointer (some ⟨e.p, 0, none⟩)) := by
            obtain ⟨wait2, av2, cv2, _, h2, _⟩ := HR1.out
            exact (h2.lm o HM.out.1).l0
          have HC := relight2_c _ o HOk.out w5 HR1.out
          have HC : Calls Tryd.prog 29 #[.pointer (some ⟨e.p, 0, none⟩), .int .i64 (m : Int), .func (.func 30) #[] #[.pointer (some ⟨b8, 0, none⟩), .pointer (some ⟨bx, 0, none⟩), .pointer (some ⟨gw, 0, none⟩)]] w5 fun x w' => x = .returned (.tuple #[]) ∧ RI ⟨e, w, gw, bx, b8, level, k3 + 1, 5000000 + 6 * sumL ls1, m, ls1.set m (level : Int), wl, some ⟨gl, 0, none⟩, cl⟩ o (nbl e.W e.D e.T m) w' := HC
          clear HR1 hlt HQ H3 xb cl1 y2 hfz x8
          go_wp2_with fail
          refine HC.mono ?_
          rintro _ w6 ⟨rfl, hR6⟩
          have HE : Hid (R3I e o w gw bx b8 level (k3 + 1) wl (some ⟨gl, 0, none⟩) cl w6) := by
            obtain ⟨wait2, av2, cv2, h1, h2, hs3, ⟨h6, h7, h8⟩, h4, h5⟩ := hR6
            refine ⟨ls1.set m (level : Int), wait2, av2, cv2, h1.all (fun i ha => ((sys_adj (e := e) o.bx m i).1 ha).2), h2, fun v => ?_, h4, h5, h6, h7, h8⟩
            have q1 : (wait2 v).length ≤ 5000000 + 6 * sumL ls1 + (nbl e.W e.D e.T m).length := hs3 v
            have q2 := nbl_len e.W e.D e.T m
            have q3 := Hsum.out
            omega
          clear hR6 HC HOk Hsum HAA Hmn HLv xb5 y5
          go_wp2
          exact ⟨⟨k3 + 1, by omega, rfl, HE⟩, by simp [intOf]; omega⟩
    have hx' : (k : Int) < (N : Int) := by omega
    obtain ⟨wait, av, cv, hP1, hRq, hsz⟩ := HJ.out
    obtain ⟨m, hm⟩ : ∃ m, dk[k]? = some m := ⟨dk[k]'(by rw [HN.out]; exact hx), List.getElem?_eq_getElem _⟩
    have hmn : m < e.n := HS.out.2.2.1 m (List.mem_of_getElem? hm)
    have hDr := HM.out.2.2.grown hRq.gr (Ne.symm HnD.out)
    obtain ⟨cur, hcur, hcd⟩ := hDr
    obtain ⟨hc0, hh, hc1⟩ := hcd k m hm
    have x0 : wr.cell? ⟨db, k * 2, none⟩ = some (.int .i64 (m : Int)) := (cell_of_row wr db _ cur 64 (0, 0) hcur).trans hc0
    have x1 : wr.cell? ⟨db, k * 2 + 1, none⟩ = some (.int .i64 hh) := (cell_of_row wr db _ cur 64 (0, 0) hcur).trans hc1
    have hb : Below wr.heap.size wr (wr.alloc (.cells #[.int .i64 (m : Int), .int .i64 hh] 64)) := (Below.refl _ _).alloc (Nat.le_refl _) _
    have hnew := heap_alloc_new wr (.cells #[.int .i64 (m : Int), .int .i64 hh] 64)
    have HQ1 : Hid (Rq e w gw bx ls wait av cv (wr.alloc (.cells #[.int .i64 (m : Int), .int .i64 hh] 64)) ∧ (wr.alloc (.cells #[.int .i64 (m : Int), .int .i64 hh] 64)).heap[wr.heap.size]? = some (.cells #[.int .i64 (m : Int), .int .i64 hh] 64 (0, 0))) := ⟨hRq.on hb, hnew⟩
    have Hm : Hid (dk[k]? = some m ∧ m < e.n) := ⟨hm, hmn⟩
    have HP1 : Hid (Put1 (e.sys o.bx) (li ls) dk k wait ∧ ∀ v, (wait v).length ≤ k) := ⟨hP1, hsz⟩
    have Hk : Hid (k ≤ 5000000) := by show k ≤ 5000000; omega
    clear hP1 hRq hsz hm hmn hcur hcd hc0 hc1 hb hnew HJ HP
    go_upto_region 5 with fail
    clear x0 x1
    generalize wr.alloc (.cells #[.int .i64 (m : Int), .int .i64 hh] 64) = w1 at *
    generalize wr.heap.size = bs at *
    have xb : w1.cell? ⟨bx, 0, none⟩ = some (.pointer (some ⟨e.q, e.o, none⟩)) := (cell_of_row w1 bx 0 _ 67 (0, 0) HQ1.out.1.hb).trans rfl
    have xs : w1.cell? ⟨bs, 0, none⟩ = some (.int .i64 (m : Int)) := (cell_of_row w1 bs 0 _ 64 (0, 0) HQ1.out.2).trans rfl
    have hdue := due_c e o ls HS.out.1 HS.out.2.1 m Hm.out.2 w1 (HQ1.out.1.lm o HM.out.1) HQ1.out.1.pl
    go_wp2_with fail
    refine hdue.mono ?_
    rintro _ w2 ⟨v, rfl, hd, hb2⟩
    have HQ2 : Hid (Rq e w gw bx ls wait av cv w2 ∧ w2.heap[bs]? = some (.cells #[.int .i64 (m : Int), .int .i64 hh] 64 (0, 0))) := ⟨HQ1.out.1.on hb2, (hb2.block _ (Array.getElem?_eq_some_iff.1 HQ1.out.2).1).trans HQ1.out.2⟩
    have HD : Hid (Due (e.sys o.bx) (li ls) (nbl e.W e.D e.T m) m v) := hd
    have hl15 : ∀ j, li ls j ≤ 15 := fun j => by have := HS.out.2.1 j; unfold li; omega
    have v15 : v ≤ 15 := hd.le hl15
    have v16 : v < 16 := by omega
    have v16' : (v : Int) < 16 := by omega
    clear hdue hd hb2 HQ1 xb xs hl15
    go_upto_region 6 with fail
    refine region_L (ReadsW gw v bs (.slice (av v) (wI wait v).length (cv v)) (.int .i64 (m : Int))) 9 (by kernel_rfl) ?_
    have hS0 := HQ2.out.1.on ((Below.refl _ w2).drew)
    have hB0 : w2.drew.heap[bs]? = some (.cells #[.int .i64 (m : Int), .int .i64 hh] 64 (0, 0)) := HQ2.out.2
    clear HQ2
    generalize w2.drew = va at *
    have hHeld : ReadsW gw v bs (.slice (av v) (wI wait v).length (cv v)) (.int .i64 (m : Int)) va := ⟨hS0.wv.out v v16, (cell_of_row va bs 0 _ 64 (0, 0) hB0).trans rfl⟩
    have HS1 : Hid (Rq e w gw bx ls wait av cv va ∧ va.heap[bs]? = some (.cells #[.int .i64 (m : Int), .int .i64 hh] 64 (0, 0))) := ⟨hS0, hB0⟩
    have hwl : (wI wait v).length ≤ 100000000 := by
      unfold wI
      rw [List.length_map]
      have := HP1.out.2 v
      have := Hk.out
      omega
    clear hS0 hB0
    obtain ⟨Ln, hLn⟩ : ∃ Ln, (wI wait v).length = Ln := ⟨_, rfl⟩
    rw [hLn] at hHeld hwl ⊢
    have HLn : Hid ((wI wait v).length = Ln) := hLn
    clear hLn
    have hne : Nonempty (Sub (ReadsW gw v bs (.slice (av v) Ln (cv v)) (.int .i64 (m : Int)))) := ⟨⟨_, hHeld⟩⟩
    have k1 : ∀ s : Sub (ReadsW gw v bs (.slice (av v) Ln (cv v)) (.int .i64 (m : Int))), s.w.cell? ⟨gw, v, none⟩ = some (.slice (av v) Ln (cv v)) := fun s => s.ok.s
    have k2 : ∀ s : Sub (ReadsW gw v bs (.slice (av v) Ln (cv v)) (.int .i64 (m : Int))), s.w.cell? ⟨bs, 0, none⟩ = some (.int .i64 (m : Int)) := fun s => s.ok.a
    refine take_L (i := 0) rfl (by kernel_rfl) (by kernel_rfl) (by kernel_rfl) (by kernel_rfl) (fun _ _ _ _ h => h) (by exact hHeld) (fun K hK => ?_)
    go_simp
    refine hK _ ?_
    clear hK K
    refine take_L (i := 1) rfl (by kernel_rfl) (by kernel_rfl) (by kernel_rfl) (by kernel_rfl) (fun _ _ _ _ h => h) (by exact hHeld) (fun K hK => ?_)
    go_simp
    refine hK _ ?_
    clear hK K
    refine take_L (i := 2) rfl (by kernel_rfl) (by kernel_rfl) (by kernel_rfl) (by kernel_rfl) (fun _ _ _ _ h => h) (by exact hHeld) (fun K hK => ?_)
    go_simp
    refine hK _ ?_
    clear hK K
    refine take_L (i := 3) rfl (by kernel_rfl) (by kernel_rfl) (by kernel_rfl) (by kernel_rfl) (fun _ _ _ _ h => h) (by exact hHeld) (fun K hK => ?_)
    go_simp
    refine hK _ ?_
    clear hK K
    refine take_L (i := 4) rfl (by kernel_rfl) (by kernel_rfl) (by kernel_rfl) (by kernel_rfl) (fun _ _ _ _ h => h) (by exact hHeld) (fun K hK => ?_)
    go_simp
    refine hK _ ?_
    clear hK K
    refine take_L (i := 5) rfl (by kernel_rfl) (by kernel_rfl) (by kernel_rfl) (by kernel_rfl) (fun _ _ _ _ h => h) (by exact hHeld) (fun K hK => ?_)
    go_simp
    refine hK _ ?_
    clear hK K
    clear hne k1 k2
    have Hb1 : Hid (Below va.heap.size va (va.alloc (.cells #[.int .i64 (m : Int)] 3))) := (Below.refl _ _).alloc (Nat.le_refl _) _
    have hH1 : ReadsW gw v bs (.slice (av v) Ln (cv v)) (.int .i64 (m : Int)) (va.alloc (.cells #[.int .i64 (m : Int)] 3)) := ⟨cell_below hHeld.s Hb1.out, cell_below hHeld.a Hb1.out⟩
    refine one_L (i := 6) (by kernel_rfl) rfl (fun K hK => ?_)
    go_simp
    refine hK.out _ _ (fun _ => hH1) ?_
    clear hK K hHeld
    have HS2 : Hid (Rq e w gw bx ls wait av cv (va.alloc (.cells #[.int .i64 (m : Int)] 3)) ∧ (va.alloc (.cells #[.int .i64 (m : Int)] 3)).heap[bs]? = some (.cells #[.int .i64 (m : Int), .int .i64 hh] 64 (0, 0))) := ⟨HS1.out.1.on Hb1.out, (Hb1.out.block _ (Array.getElem?_eq_some_iff.1 HS1.out.2).1).trans HS1.out.2⟩
    have HB : Hid (w.heap.size ≤ (va.alloc (.cells #[.int .i64 (m : Int)] 3)).heap.size) := HS2.out.1.gr.size
    have HSl : Hid (∀ xs : List Int, xs = wI wait v → OwnI (va.alloc (.cells #[.int .i64 (m : Int)] 3)) w.heap.size (av v) (cv v) xs) := fun xs h => by rw [h]; exact HS2.out.1.wv.own v v16
    refine one_W (i := 7) (by kernel_rfl) rfl (fun K hK => ?_)
    refine wpList_append_int rfl _ _ rfl w.heap.size (av v) Ln (cv v) (wI wait v) HLn.out rfl (HSl.out _ rfl) ⟨va.heap.size, 0, none⟩ (m : Int) rfl (cell_one_int _ _ _) hwl HB.out ?_
    intro a9 c9 w9 HO3 hg3 hat3
    have f1 := cell_kept9 HS2.out.1 v16 HLn.out hg3 (HS2.out.1.wv.out v v16)
    have f2 := free_kept9 HS2.out.1 v16 HLn.out hg3 v
    have hg3' := hg3
    rw [← HLn.out] at hg3'
    have hbs9 := HS2.out.1.kept v16 hg3' HS2.out.2 (HS2.out.1.other v16 HS2.out.2 (by decide))
    have hH9 : ReadsW gw v bs (.slice (av v) Ln (cv v)) (.int .i64 (m : Int)) w9 := ⟨by have := f1; unfold slW at this; rw [HLn.out] at this; exact this, (cell_of_row w9 bs 0 _ 64 (0, 0) hbs9).trans rfl⟩
    refine hK.out _ _ (fun _ => hH9) ?_
    clear hK K
    have HE : Hid (R1I e o w gw bx ls dk (k + 1) (w9.setCell ⟨gw, v, none⟩ (.slice a9 (Ln + 1) c9))) := by
      have hLn := HLn.out
      have hr := HS2.out.1.push (n := m) v16 HO3.out (a' := a9) (c' := c9) hg3' (by rw [← hLn] at hat3; exact hat3)
      rw [hLn] at hr
      have hl15 : ∀ j, li ls j ≤ 15 := fun j => by have := HS.out.2.1 j; unfold li; omega
      refine ⟨_, _, _, HP1.out.1.step Hm.out.1 (by rw [sys_n]; exact Hm.out.2) HD.out (fun j => ?_) hl15 HS.out.2.2.2.2.sound, hr, fun u => ?_⟩
      · rw [sys_adj]
        constructor
        · rintro ⟨hj, h⟩
          obtain ⟨u, hu, hn⟩ := mem_nbl.1 h
          obtain ⟨u2, hu2, hn2⟩ := nbr_symm o.bx.w0 o.bx.d0 hj hn
          exact mem_nbl.2 ⟨u2, hu2, hn2⟩
        · intro h
          obtain ⟨u, hu, hn⟩ := mem_nbl.1 h
          have hj := nbr_lt o.bx.w0 o.bx.d0 Hm.out.2 hn
          obtain ⟨u2, hu2, hn2⟩ := nbr_symm o.bx.w0 o.bx.d0 Hm.out.2 hn
          exact ⟨hj, mem_nbl.2 ⟨u2, hu2, hn2⟩⟩
      · have h1 := HP1.out.2 u
        have h2 := HP1.out.2 v
        show (if u = v then wait v ++ [m] else wait u).length ≤ _
        by_cases q : u = v
        · rw [if_pos q, List.length_append]
          simp only [List.length_cons, List.length_nil]
          omega
        · rw [if_neg q]; omega
    clear hH1 HSl HB HS1 HS2 HO3 hg3 hg3' hat3 Hb1 HP1 Hm HD hbs9
    have hne : Nonempty (Sub (ReadsW gw v bs (.slice (av v) Ln (cv v)) (.int .i64 (m : Int)))) := ⟨⟨_, hH9⟩⟩
    refine take_L (i := 8) rfl (by kernel_rfl) (by kernel_rfl) (by kernel_rfl) (by kernel_rfl) (fun _ _ _ _ h => h) (by exact hH9) (fun K hK => ?_)
    go_simp
    refine hK _ ?_
    clear hK K
    clear hne
    have f1' : w9.cell? ⟨gw, v, none⟩ = some (.slice (av v) Ln (cv v)) := hH9.s
    refine one_L (i := 9) (by kernel_rfl) rfl (fun K hK => ?_)
    go_simp
    refine hK.out _ _ (fun h => absurd rfl h) ?_
    clear hK K hH9
    refine done_L (by kernel_rfl) ?_ _
    have wk : IntKind.i64.wrap ((k : Int) + 1) = ((k + 1 : Nat) : Int) := by rw [IntKind.wrap_i64]; omega
    go_wp2
    exact ⟨⟨k + 1, by omega, rfl, HE⟩, by simp [intOf]; omega⟩
end Go.Proofs.YtmfjmcaaoljjlaaDoor
