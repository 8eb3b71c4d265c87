/-
  The landed offer: a cell's neighbours wait for what it has for them.
-/
import Derived.Test.YtjeapaojbkicmabDoorQmem
import Derived.Test.YtjeapaojbkicmabDoorLhch
import Derived.BigQuiet
import Derived.Deep.QuietTactic
import Derived.Deep.DeepCutAuto
import Derived.Laws.AppendOwnNone
set_option maxRecDepth 20000
namespace Go.Proofs.YtjeapaojbkicmabDoor
open C Go.RowKit L

theorem steps_ix0 (w : World) : (Instr.index 84 (.agg #[.int .i64 (-2500), .int .i64 (-50), .int .i64 (-1), .int .i64 1, .int .i64 50, .int .i64 2500]) (.int .i64 0)).run Tryd.prog w = .ok (.int .i64 (-2500)) w := by kernel_rfl
theorem steps_ix1 (w : World) : (Instr.index 84 (.agg #[.int .i64 (-2500), .int .i64 (-50), .int .i64 (-1), .int .i64 1, .int .i64 50, .int .i64 2500]) (.int .i64 1)).run Tryd.prog w = .ok (.int .i64 (-50)) w := by kernel_rfl
theorem steps_ix2 (w : World) : (Instr.index 84 (.agg #[.int .i64 (-2500), .int .i64 (-50), .int .i64 (-1), .int .i64 1, .int .i64 50, .int .i64 2500]) (.int .i64 2)).run Tryd.prog w = .ok (.int .i64 (-1)) w := by kernel_rfl
theorem steps_ix3 (w : World) : (Instr.index 84 (.agg #[.int .i64 (-2500), .int .i64 (-50), .int .i64 (-1), .int .i64 1, .int .i64 50, .int .i64 2500]) (.int .i64 3)).run Tryd.prog w = .ok (.int .i64 1) w := by kernel_rfl
theorem steps_ix4 (w : World) : (Instr.index 84 (.agg #[.int .i64 (-2500), .int .i64 (-50), .int .i64 (-1), .int .i64 1, .int .i64 50, .int .i64 2500]) (.int .i64 4)).run Tryd.prog w = .ok (.int .i64 50) w := by kernel_rfl
theorem steps_ix5 (w : World) : (Instr.index 84 (.agg #[.int .i64 (-2500), .int .i64 (-50), .int .i64 (-1), .int .i64 1, .int .i64 50, .int .i64 2500]) (.int .i64 5)).run Tryd.prog w = .ok (.int .i64 2500) w := by kernel_rfl
theorem steps_ix (X : Nat) (hX : X < 6) (w : World) : (Instr.index 84 (.agg #[.int .i64 (-2500), .int .i64 (-50), .int .i64 (-1), .int .i64 1, .int .i64 50, .int .i64 2500]) (.int .i64 (X : Int))).run Tryd.prog w = .ok (.int .i64 (stepI X)) w := by
  have h : X = 0 ∨ X = 1 ∨ X = 2 ∨ X = 3 ∨ X = 4 ∨ X = 5 := by omega
  rcases h with h | h | h | h | h | h
  · rw [h]; exact steps_ix0 w
  · rw [h]; exact steps_ix1 w
  · rw [h]; exact steps_ix2 w
  · rw [h]; exact steps_ix3 w
  · rw [h]; exact steps_ix4 w
  · rw [h]; exact steps_ix5 w
/-- The first X ways of a cell. -/
def DX (D : Nat → Nat → Prop) (m X : Nat) : Nat → Nat → Prop := fun a b => D a b ∨ (a = m ∧ ∃ j, j < X ∧ (b : Int) = m + stepI j)
theorem dx_next {e : SqE} {s : L.Sys} {level k c : Nat} {D : Nat → Nat → Prop} {ls : List Int} {wait : Nat → List Nat} {av : Nat → Option Addr} {cv : Nat → Nat} {w : World} {m X N : Nat} (hN : (m : Int) + stepI X = (N : Int)) (h : Sq e s level k (fun a b => DX D m X a b ∨ (a = m ∧ b = N)) c ls wait av cv w) : Sq e s level k (DX D m (X + 1)) c ls wait av cv w := by
  refine h.as (h.bq.mono fun a b hd _ _ => .inl ?_) (Nat.le_refl _)
  rcases hd with hd | ⟨rfl, j, hj, hb⟩
  · exact .inl (.inl hd)
  · by_cases q : j = X
    · subst q
      exact .inr ⟨rfl, by omega⟩
    · exact .inl (.inr ⟨rfl, j, by omega, hb⟩)
theorem dx_end {e : SqE} {s : L.Sys} {level k c : Nat} {D : Nat → Nat → Prop} {ls : List Int} {wait : Nat → List Nat} {av : Nat → Option Addr} {cv : Nat → Nat} {w : World} {m : Nat} (o : SqO e s) (h : Sq e s level k (DX D m 6) c ls wait av cv w) : Sq e s level k (fun a b => D a b ∨ a = m) c ls wait av cv w := by
  refine h.as (h.bq.mono fun a b hd ha _ => .inl ?_) (Nat.le_refl _)
  rcases hd with hd | rfl
  · exact .inl hd
  · obtain ⟨_, j, hj, hb⟩ := (o.adj a b).1 ha
    exact .inr ⟨rfl, j, hj, hb⟩
/-- What the region of an append reads. -/
structure ReadsO (gf v : Nat) (sl : Value) (w : World) : Prop where
  s : w.cell? ⟨gf, 2 + v, none⟩ = some sl
/-- What offer leaves: the lists of this level are as they were. -/
def SqX (e : SqE) (s : L.Sys) (level k c m X : Nat) (D : Nat → Nat → Prop) (ls : List Int) (wl : List Nat) (al : Option Addr) (cl : Nat) (W : World) : Prop := ∃ wait av cv, Sq e s level k (DX D m X) (c + X) ls wait av cv W ∧ wait level = wl ∧ av level = al ∧ cv level = cl
attribute [local go_sem] Oper.semAt_some
set_option maxRecDepth 1000000 in
set_option maxHeartbeats 4000000 in
theorem offer_c (e : SqE) (s : L.Sys) (o : SqO e s) (level k c m : Nat) (D : Nat → Nat → Prop) (ls : List Int) (wl : List Nat) (al : Option Addr) (cl : Nat) (w : World) (hS : SqX e s level k c m 0 D ls wl al cl w) (hin : Inn m) (hm : li ls m ≤ level) (hc : c + 6 ≤ 90000000) :
    Calls Tryd.prog 30 #[.pointer (some ⟨e.gf, 0, none⟩), .int .i64 (m : Int)] w fun en w' => en = .returned (.tuple #[]) ∧ SqX e s level k c m 6 D ls wl al cl w' := by
  obtain ⟨Post, hPost⟩ : ∃ Post : Ending → World → Prop, Post = fun en w' => en = .returned (.tuple #[]) ∧ SqX e s level k c m 6 D ls wl al cl w' := ⟨_, rfl⟩
  rw [← hPost]
  have HP : Hid (∀ w', SqX e s level k c m 6 D ls wl al cl w' → Post (.returned (.tuple #[])) w') := fun w' h => by rw [hPost]; exact ⟨rfl, h⟩
  clear hPost
  have H0 : Hid (SqX e s level k c m 0 D ls wl al cl w) := hS
  have HO : Hid (SqO e s) := o
  have Hin : Hid (Inn m) := hin
  have Hm : Hid (li ls m ≤ level) := hm
  have hT : Tabs w := by obtain ⟨_, _, _, h, _⟩ := hS; exact h.tabs o
  have t0 := (hT.step 0).trans (show stepsV[0]? = some (.int .i64 (-2500)) from rfl)
  have t1 := (hT.step 1).trans (show stepsV[1]? = some (.int .i64 (-50)) from rfl)
  have t2 := (hT.step 2).trans (show stepsV[2]? = some (.int .i64 (-1)) from rfl)
  have t3 := (hT.step 3).trans (show stepsV[3]? = some (.int .i64 1) from rfl)
  have t4 := (hT.step 4).trans (show stepsV[4]? = some (.int .i64 50) from rfl)
  have t5 := (hT.step 5).trans (show stepsV[5]? = some (.int .i64 2500) from rfl)
  clear hS o hin hm hT
  go_enter Tryd.func30, Tryd.ntmps30
  go_wp2
  clear t0 t1 t2 t3 t4 t5
  go_loopw [9] (fun vx wr => ∃ X : Nat, X ≤ 6 ∧ vx = .int .i64 (X : Int) ∧ Hid (SqX e s level k c m X D ls wl al cl wr)) (fun vx _ => 6 - (intOf vx).toNat)
  case atStart => exact ⟨0, by omega, rfl, H0⟩
  case round =>
    clear H0
    obtain ⟨X, hX, rfl, HS⟩ := hrel
    by_cases hx : X < 6
    case neg =>
      have hx' : ¬ (X : Int) < 6 := by omega
      have R := HP.out wr (by obtain rfl : X = 6 := by omega
                              exact HS.out)
      clear HS HO Hin Hm HP
      go_wp2
      exact bodyPost_end (results_none rfl _ _ _) rfl R
    have hx' : (X : Int) < 6 := by omega
    have ix := steps_ix X hx wr
    have wX : IntKind.i64.wrap ((X : Int) + 1) = ((X + 1 : Nat) : Int) := by rw [IntKind.wrap_i64]; omega
    obtain ⟨wait, av, cv, hS, hW⟩ := HS.out
    clear HS HP
    obtain ⟨N, hN, hN2⟩ := Hin.out.step X
    obtain ⟨sX, hsX⟩ : ∃ sX, stepI X = sX := ⟨_, rfl⟩
    have HN : Hid ((m : Int) + stepI X = (N : Int)) := hN
    rw [hsX] at ix hN
    have HA : Hid (Adj m N) := ⟨Hin.out, X, hx, by have := HN.out; omega⟩
    have mb : m < 325000 := by have := Hin.out; unfold Inn at this; omega
    have wN : IntKind.i64.wrap ((m : Int) + sX) = (N : Int) := by rw [IntKind.wrap_i64, hN]; omega
    clear hsX hN
    have HSq : Hid (Sq e s level k (DX D m X) (c + X) ls wait av cv wr ∧ wait level = wl ∧ av level = al ∧ cv level = cl) := ⟨hS, hW⟩
    have q0 := hS.wf.p0
    have q1 := hS.wf.p1
    have ca := hS.pl.cell (k := m) (by rw [hS.len]; exact mb)
    have cn := hS.pl.cell (k := N) (by rw [hS.len]; exact hN2)
    have cb := hS.pL.cell (k := N) (by rw [HO.out.kl]; exact hN2)
    have ba := hS.lv m
    have bn := hS.lv N
    have bb := HO.out.kk N hN2
    clear hS hW
    obtain ⟨A, hA⟩ : ∃ x, ls.getD m 0 = x := ⟨_, rfl⟩
    obtain ⟨C, hC⟩ : ∃ x, ls.getD N 0 = x := ⟨_, rfl⟩
    obtain ⟨B, hB⟩ : ∃ x, e.LS.getD N 0 = x := ⟨_, rfl⟩
    have HL : Hid (ls.getD m 0 = A ∧ ls.getD N 0 = C ∧ e.LS.getD N 0 = B) := ⟨hA, hC, hB⟩
    rw [hA] at ca ba
    rw [hC] at cn bn
    rw [hB] at cb bb
    clear hA hC hB
    obtain ⟨a0, a1⟩ := ba
    obtain ⟨c0, c1⟩ := bn
    obtain ⟨b0, b1⟩ := bb
    obtain ⟨V, hV⟩ : ∃ V, A - B = V := ⟨_, rfl⟩
    have wV : IntKind.i64.wrap (A - B) = V := by rw [IntKind.wrap_i64]; omega
    have hne1 : (N : Int) < 325000 := by omega
    have hme1 : (m : Int) < 325000 := by omega
    have HVV : Hid (A - B = V) := hV
    have HBd : Hid (0 ≤ A ∧ A ≤ 15 ∧ 0 ≤ C ∧ C ≤ 15 ∧ 1 ≤ B ∧ B ≤ 16) := ⟨a0, a1, c0, c1, b0, b1⟩
    clear hN2 hV mb
    go_wp2_with fail
    go_quiet (fail)
    clear ix ca cb wV
    have HSr : Hid (Sq e s level k (DX D m X) (c + X) ls wait av cv (wr.drewN nq) ∧ wait level = wl ∧ av level = al ∧ cv level = cl) := ⟨HSq.out.1.on (below_drewN (Below.refl _ _) _), HSq.out.2⟩
    clear HSq
    by_cases hgt : C < V
    case neg =>
      have HE : Hid (SqX e s level k c m (X + 1) D ls wl al cl (wr.drewN nq)) := by
        obtain ⟨h1, h2⟩ := HSr.out
        refine ⟨wait, av, cv, ?_, h2⟩
        refine dx_next HN.out ((h1.as (h1.bq.skip fun _ => ?_) (by omega)))
        obtain ⟨l1, l2, l3⟩ := HL.out
        have e2 := HO.out.loss N (by omega)
        have := HBd.out
        have := HVV.out
        unfold li
        rw [e2, l1, l2, l3]
        omega
      clear HSr HO HN HA HL Hin Hm HBd HVV
      go_wp2
      exact ⟨⟨X + 1, by omega, rfl, HE⟩, by simp [intOf]; omega⟩
    obtain ⟨v, rfl⟩ := Int.eq_ofNat_of_zero_le (show 0 ≤ V by omega)
    have v16 : v < 16 := by have := HVV.out; omega
    have v16' : (v : Int) < 16 := by omega
    go_upto_region 6 with fail
    have HV : Hid (v + s.loss N = li ls m ∧ s.pass N = true ∧ 1 ≤ v) := by
      obtain ⟨l1, l2, l3⟩ := HL.out
      have e2 := HO.out.loss N (by omega)
      have := HBd.out
      have := HVV.out
      have e3 := HO.out.pass N (by omega)
      unfold li
      rw [e2, e3, l1, l3]
      exact ⟨by omega, decide_eq_true (by omega), by omega⟩
    refine region_L (ReadsO e.gf v (.slice (av v) (wI wait v).length (cv v))) 14 (by kernel_rfl) ?_
    have hS0 := HSr.out.1.on ((Below.refl _ (wr.drewN nq)).drew)
    have HW : Hid (wait level = wl ∧ av level = al ∧ cv level = cl) := HSr.out.2
    clear cn q0 q1 HSr
    generalize (wr.drewN nq).drew = va at *
    have hHeld : ReadsO e.gf v (.slice (av v) (wI wait v).length (cv v)) va := ⟨hS0.wf.out v v16⟩
    have HS1 : Hid (Sq e s level k (DX D m X) (c + X) ls wait av cv va) := hS0
    have hwl : (wI wait v).length ≤ 100000000 := by
      unfold wI
      rw [List.length_map]
      have := hS0.sz v
      omega
    clear hS0
    obtain ⟨Ln, hLn⟩ : ∃ Ln, (wI wait v).length = Ln := ⟨_, rfl⟩
    rw [hLn] at hHeld hwl ⊢
    have HLn : Hid ((wI wait v).length = Ln) := hLn
    clear hLn
    have hne : Nonempty (Sub (ReadsO e.gf v (.slice (av v) Ln (cv v)))) := ⟨⟨_, hHeld⟩⟩
    have k1 : ∀ s : Sub (ReadsO e.gf v (.slice (av v) Ln (cv v))), s.w.cell? ⟨e.gf, 2 + v, none⟩ = some (.slice (av v) Ln (cv v)) := fun s => s.ok.s
    refine take_L (i := 0) rfl (by kernel_rfl) (by kernel_rfl) (by kernel_rfl) (by kernel_rfl) (fun _ _ _ _ h => h) (by exact hHeld) (fun K hK => ?_)
    go_simp
    refine hK _ ?_
    clear hK K
    refine take_L (i := 1) rfl (by kernel_rfl) (by kernel_rfl) (by kernel_rfl) (by kernel_rfl) (fun _ _ _ _ h => h) (by exact hHeld) (fun K hK => ?_)
    go_simp
    refine hK _ ?_
    clear hK K
    refine take_L (i := 2) rfl (by kernel_rfl) (by kernel_rfl) (by kernel_rfl) (by kernel_rfl) (fun _ _ _ _ h => h) (by exact hHeld) (fun K hK => ?_)
    go_simp
    refine hK _ ?_
    clear hK K
    refine take_L (i := 3) rfl (by kernel_rfl) (by kernel_rfl) (by kernel_rfl) (by kernel_rfl) (fun _ _ _ _ h => h) (by exact hHeld) (fun K hK => ?_)
    go_simp
    refine hK _ ?_
    clear hK K
    refine take_L (i := 4) rfl (by kernel_rfl) (by kernel_rfl) (by kernel_rfl) (by kernel_rfl) (fun _ _ _ _ h => h) (by exact hHeld) (fun K hK => ?_)
    go_simp
    refine hK _ ?_
    clear hK K
    refine take_L (i := 5) rfl (by kernel_rfl) (by kernel_rfl) (by kernel_rfl) (by kernel_rfl) (fun _ _ _ _ h => h) (by exact hHeld) (fun K hK => ?_)
    go_simp
    refine hK _ ?_
    clear hK K
    refine take_L (i := 6) rfl (by kernel_rfl) (by kernel_rfl) (by kernel_rfl) (by kernel_rfl) (fun _ _ _ _ h => h) (by exact hHeld) (fun K hK => ?_)
    go_simp
    refine hK _ ?_
    clear hK K
    refine take_L (i := 7) rfl (by kernel_rfl) (by kernel_rfl) (by kernel_rfl) (by kernel_rfl) (fun _ _ _ _ h => h) (by exact hHeld) (fun K hK => ?_)
    go_simp
    refine hK _ ?_
    clear hK K
    refine take_L (i := 8) rfl (by kernel_rfl) (by kernel_rfl) (by kernel_rfl) (by kernel_rfl) (fun _ _ _ _ h => h) (by exact hHeld) (fun K hK => ?_)
    go_simp
    refine hK _ ?_
    clear hK K
    refine take_LC (i := 11) [13, 12] rfl (by kernel_rfl) (by kernel_rfl) (by kernel_rfl) (by kernel_rfl) (by kernel_rfl) (fun _ _ _ _ h => h) (by exact hHeld) (fun K hK => ?_)
    go_simp
    refine hK _ ?_
    clear hK K
    refine take_LC (i := 12) [13] rfl (by kernel_rfl) (by kernel_rfl) (by kernel_rfl) (by kernel_rfl) (by kernel_rfl) (fun _ _ _ _ h => h) (by exact hHeld) (fun K hK => ?_)
    go_simp
    refine hK _ ?_
    clear hK K
    clear hne k1
    have Hb1 : Hid (Below va.heap.size va (va.alloc (.cells #[.int .i64 (N : Int)] 3))) := (Below.refl _ _).alloc (Nat.le_refl _) _
    have hH1 : ReadsO e.gf v (.slice (av v) Ln (cv v)) (va.alloc (.cells #[.int .i64 (N : Int)] 3)) := ⟨cell_below hHeld.s Hb1.out⟩
    refine one_L (i := 9) (by kernel_rfl) rfl (fun K hK => ?_)
    go_simp
    refine hK.out _ _ (fun _ => hH1) ?_
    clear hK K hHeld
    have HS2 : Hid (Sq e s level k (DX D m X) (c + X) ls wait av cv (va.alloc (.cells #[.int .i64 (N : Int)] 3))) := HS1.out.on Hb1.out
    have HB : Hid (e.w0.heap.size ≤ (va.alloc (.cells #[.int .i64 (N : Int)] 3)).heap.size) := HS2.out.gr.size
    have HSl : Hid (∀ xs : List Int, xs = wI wait v → OwnI (va.alloc (.cells #[.int .i64 (N : Int)] 3)) e.w0.heap.size (av v) (cv v) xs) := fun xs h => by rw [h]; exact HS2.out.wf.own v v16
    refine one_W (i := 10) (by kernel_rfl) rfl (fun K hK => ?_)
    refine wpList_append_int rfl _ _ rfl e.w0.heap.size (av v) Ln (cv v) (wI wait v) HLn.out rfl (HSl.out _ rfl) ⟨va.heap.size, 0, none⟩ (N : Int) rfl (cell_one_int _ _ _) hwl HB.out ?_
    intro a9 c9 w9 HO3 hg3 hat3
    have f1 := HS2.out.wf.kept v16 HLn.out hg3 hH1.s
    have f2 : w9.frozen? ⟨e.gf, 2 + v, none⟩ = false := by
      obtain ⟨cs, hcs, _⟩ := HS2.out.wf.blk
      exact frozen_of_row w9 e.gf (2 + v) cs 68 (HS2.out.wf.other v16 HLn.out hg3 hcs (by decide))
    have hH9 : ReadsO e.gf v (.slice (av v) Ln (cv v)) w9 := ⟨f1⟩
    refine hK.out _ _ (fun _ => hH9) ?_
    clear hK K
    have HE : Hid (SqX e s level k c m (X + 1) D ls wl al cl (w9.setCell ⟨e.gf, 2 + v, none⟩ (.slice a9 (Ln + 1) c9))) := by
      have hLn := HLn.out
      obtain ⟨v1, v2, v3⟩ := HV.out
      have hr := HS2.out.push ((HO.out.adj m N).2 HA.out) v2 v1 Hm.out v3 v16 HO3.out (a' := a9) (c' := c9) (by rw [← hLn] at hg3; exact hg3) (by rw [← hLn] at hat3; exact hat3)
      rw [hLn] at hr
      have hlo : 1 ≤ s.loss N := s.loss_pos N v2
      have hne : level ≠ v := by have := Hm.out; omega
      obtain ⟨w1, w2, w3⟩ := HW.out
      exact ⟨_, _, _, dx_next HN.out hr, by rw [pushW_other hne]; exact w1, by rw [updA_other _ _ hne]; exact w2, by rw [updA_other _ _ hne]; exact w3⟩
    clear hH1 HSl HB HS1 HS2 HO3 hg3 hat3 Hb1 HV HW HA HL HN HBd HVV Hin Hm HO
    have hne : Nonempty (Sub (ReadsO e.gf v (.slice (av v) Ln (cv v)))) := ⟨⟨_, hH9⟩⟩
    refine take_L (i := 13) rfl (by kernel_rfl) (by kernel_rfl) (by kernel_rfl) (by kernel_rfl) (fun _ _ _ _ h => h) (by exact hH9) (fun K hK => ?_)
    go_simp
    refine hK _ ?_
    clear hK K hne
    refine one_L (i := 14) (by kernel_rfl) rfl (fun K hK => ?_)
    go_simp
    refine hK.out _ _ (fun h => absurd rfl h) ?_
    clear hK K hH9
    refine done_L (by kernel_rfl) ?_ _
    go_wp2
    exact ⟨⟨X + 1, by omega, by simp, HE⟩, by simp [intOf]; omega⟩
end Go.Proofs.YtjeapaojbkicmabDoor
