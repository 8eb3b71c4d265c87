/-
  LadderTasks, walked over any ladder package that keeps what is asked.
-/
import Derived.Test.YtokjbjfpgjincaaLmays
set_option maxRecDepth 20000
namespace Go.Proofs.Ytokjbjfpgjincaa
open Go.RowKit

theorem tasksL_le (l : Lad) (k x z : Int) : (tasksL l k x z).length ≤ 5000 := by
  have h := tasksF_len x z (radL l k) 0 (fun r hr => (radL_rng hr).2)
  have h2 := (capS_bound (radL l k) (fun v hv => radL_rng hv)).2
  have h3 : (radL l k).length ≤ 16 := by
    unfold radL
    split
    · rename_i hs
      rw [spreadL_len]
      exact (st_iff.1 hs).1.f.n
    · simp
  have e : (tasksL l k x z).length = (tasksF x z 0 (radL l k)).length := rfl
  omega
theorem nrL_le (x z r : Int) : (nrL x z r).length ≤ 289 := by
  by_cases h : 0 ≤ r ∧ r ≤ 8
  · have e := nrL_len x z r h.1 h.2
    have : cap1 r ≤ 289 := by
      have hx : r = 0 ∨ r = 1 ∨ r = 2 ∨ r = 3 ∨ r = 4 ∨ r = 5 ∨ r = 6 ∨ r = 7 ∨ r = 8 := by omega
      rcases hx with rfl | rfl | rfl | rfl | rfl | rfl | rfl | rfl | rfl <;> decide
    omega
  · unfold nrL
    rw [if_neg h]
    simp
theorem needsF_le (x z : Int) : ∀ ys : List Rd, (needsF x z ys).length ≤ 289 * ys.length
  | [] => by simp [needsF]
  | y :: ys => by
    have ih := needsF_le x z ys
    have h := nrL_le x z y.2
    rw [needsF, List.length_append, List.length_map, List.length_cons]
    omega
theorem needsL_le (l : Lad) (t : Tk) : (needsL l t).length ≤ 5000 := by
  unfold needsL
  split
  · rename_i hs
    have h := needsF_le t.2.1 t.2.2 (l.getD t.1.toNat [])
    have hst := st_iff.1 hs
    have h2 := hst.1.f.m _ (getD_mem (l := l) (i := t.1.toNat) (by have := hst.2; omega))
    omega
  · simp
set_option maxHeartbeats 2000000 in
theorem ladderTasks_walk (J : LSpec) (a : Option Addr) (n c : Nat) (L : List Rn) (k x z : Int) (w : World) (hR : RgAt w a L) (hn : L.length = n) (hle : n ≤ maxLen) (hk : I64 k) :
    Calls Try.prog 5 #[.slice a n c, .int .i64 k, .agg #[.int .i64 x, .int .i64 z]] w fun e w' => e = .returned (.bool true) ∧ Below w.heap.size w w' := by
  obtain ⟨Post, hPost⟩ : ∃ Post : Ending → World → Prop, Post = fun e w' => e = .returned (.bool true) ∧ Below w.heap.size w w' := ⟨_, rfl⟩
  rw [← hPost]
  have HP : Hid (∀ w', Below w.heap.size w w' → Post (.returned (.bool true)) w') := fun w' h => by rw [hPost]; exact ⟨rfl, h⟩
  clear hPost
  have HR : Hid (RgAt w a L) := hR
  have Hk : Hid (I64 k) := hk
  have Hn : Hid (L.length = n) := hn
  clear hR hk hn
  have Hb0 : Hid (Below w.heap.size w (w.alloc (.cells #[.int .i64 x, .int .i64 z] 31))) := (Below.refl _ _).alloc (Nat.le_refl _) _
  have HX0 : Hid ((w.alloc (.cells #[.int .i64 x, .int .i64 z] 31)).heap[w.heap.size]? = some (.cells #[.int .i64 x, .int .i64 z] 31 (0, 0))) := heap_alloc_new w _
  go_enter Try.func5, Try.ntmps5
  go_wp2_with fail
  have hsz : (w.alloc (.cells #[.int .i64 x, .int .i64 z] 31)).heap.size = w.heap.size + 1 := by simp
  generalize w.alloc (.cells #[.int .i64 x, .int .i64 z] 31) = w0 at *
  refine (awake_c J w0).mono ?_
  rintro _ w1 ⟨rfl, hb1⟩
  have Hb1 : Hid (Below w.heap.size w w1) := Hb0.out.trans (hb1.mono Hb0.out.size)
  have HX1 : Hid (w1.heap[w.heap.size]? = some (.cells #[.int .i64 x, .int .i64 z] 31 (0, 0))) := (hb1.block _ (by omega)).trans HX0.out
  have y0 : w1.cell? ⟨w.heap.size, 0, none⟩ = some (.int .i64 x) := (cell_of_row w1 _ 0 _ 31 (0, 0) HX1.out).trans rfl
  have y1 : w1.cell? ⟨w.heap.size, 1, none⟩ = some (.int .i64 z) := (cell_of_row w1 _ 1 _ 31 (0, 0) HX1.out).trans rfl
  clear hb1 HX0 Hb0
  by_cases g1 : x < -1099511627776
  · have R := HP.out w1 Hb1.out
    clear HP
    go_wp2
    exact R
  by_cases g2 : 1099511627776 < x
  · have R := HP.out w1 Hb1.out
    clear HP
    go_wp2
    exact R
  by_cases g3 : z < -1099511627776
  · have R := HP.out w1 Hb1.out
    clear HP
    go_wp2
    exact R
  by_cases g4 : 1099511627776 < z
  · have R := HP.out w1 Hb1.out
    clear HP
    go_wp2
    exact R
  have Hx : Hid (Far 1099511627776 x) := ⟨by omega, by omega⟩
  have Hz : Hid (Far 1099511627776 z) := ⟨by omega, by omega⟩
  have Hx2 : Hid (Far 2199023255552 x) := ⟨by omega, by omega⟩
  have Hz2 : Hid (Far 2199023255552 z) := ⟨by omega, by omega⟩
  go_wp2_with fail
  clear y0 y1
  have Hc : Hid ((∀ w', Below w1.heap.size w1 w' → w'.cell? ⟨w.heap.size, 0, none⟩ = some (.int .i64 x)) ∧ ∀ w', Below w1.heap.size w1 w' → w'.cell? ⟨w.heap.size, 1, none⟩ = some (.int .i64 z)) := ⟨fun w' hb => cell_below ((cell_of_row w1 _ 0 _ 31 (0, 0) HX1.out).trans rfl) hb, fun w' hb => cell_below ((cell_of_row w1 _ 1 _ 31 (0, 0) HX1.out).trans rfl) hb⟩
  have Ht : Hid (∀ w', Below w1.heap.size w1 w' → RgAt w' a L) := fun w' hb => (HR.out.on Hb1.out).on hb
  have Hbz : Hid (∀ w', Below w1.heap.size w1 w' → Below w.heap.size w w') := fun w' hb => Hb1.out.trans (hb.mono Hb1.out.size)
  have hT5 := tasksL_le (lad L) k x z
  have hN5 := needsL_le (lad L) (k, x, z)
  have hN5 : (needsL (lad L) (k, x, z)).length ≤ 5000 := hN5
  have HJt : Hid (∀ w', Below w1.heap.size w1 w' → Calls Try.prog 17 #[.slice a n c, .int .i64 k, .agg #[.int .i64 x, .int .i64 z]] w' fun e w'' => Below w'.heap.size w' w'' ∧ ∃ a' c', e = .returned (.slice a' (tasksL (lad L) k x z).length c') ∧ TksAt w'' a' (tasksL (lad L) k x z)) := fun w' hb => J.tasks_ a n c L k x z w' (Ht.out w' hb) Hn.out hle Hk.out Hx.out Hz.out
  have HJu : Hid (∀ w', Below w1.heap.size w1 w' → Calls Try.prog 18 #[.slice a n c, .int .i64 k, .agg #[.int .i64 x, .int .i64 z]] w' fun e w'' => Below w'.heap.size w' w'' ∧ ∃ a' c', e = .returned (.slice a' (tasksL (lad L) k x z).length c') ∧ TksAt w'' a' (tasksL (lad L) k x z)) := fun w' hb => rtasks_c a n c L k x z w' (Ht.out w' hb) Hn.out Hk.out Hx.out Hz.out
  have HJn : Hid (∀ w', Below w1.heap.size w1 w' → Calls Try.prog 19 #[.slice a n c, .agg #[.int .i64 k, .int .i64 x, .int .i64 z]] w' fun e w'' => Below w'.heap.size w' w'' ∧ ∃ a' c', e = .returned (.slice a' (needsL (lad L) (k, x, z)).length c') ∧ TksAt w'' a' (needsL (lad L) (k, x, z))) := fun w' hb => J.needs_ a n c L k x z w' (Ht.out w' hb) Hn.out hle Hk.out Hx2.out Hz2.out
  have HJo : Hid (∀ w', Below w1.heap.size w1 w' → Calls Try.prog 20 #[.slice a n c, .agg #[.int .i64 k, .int .i64 x, .int .i64 z]] w' fun e w'' => Below w'.heap.size w' w'' ∧ ∃ a' c', e = .returned (.slice a' (needsL (lad L) (k, x, z)).length c') ∧ TksAt w'' a' (needsL (lad L) (k, x, z))) := fun w' hb => rneeds_c a n c L k x z w' (Ht.out w' hb) Hn.out Hk.out Hx2.out Hz2.out
  generalize tasksL (lad L) k x z = T at *
  generalize needsL (lad L) (k, x, z) = N at *
  obtain ⟨tn, htn⟩ : ∃ m, m = T.length := ⟨_, rfl⟩
  obtain ⟨nn, hnn⟩ : ∃ m, m = N.length := ⟨_, rfl⟩
  have Htn : Hid (tn = T.length) := htn
  have Hnn : Hid (nn = N.length) := hnn
  rw [← htn] at hT5 HJt HJu
  rw [← hnn] at hN5 HJn HJo
  clear htn hnn Ht HR Hx Hz Hx2 Hz2 HX1
  have Hq : Hid (Below w1.heap.size w1 w1) := Below.refl _ _
  refine region_L (fun w' => Below w1.heap.size w1 w') 9 (by kernel_rfl) ?_
  have hHeld : (fun w' => Below w1.heap.size w1 w') w1.drew := Hq.out.drew
  have hne : Nonempty (Sub (fun w' => Below w1.heap.size w1 w')) := ⟨⟨_, hHeld⟩⟩
  have k0 : ∀ s : Sub (fun w' => Below w1.heap.size w1 w'), s.w.cell? ⟨w.heap.size, 0, none⟩ = some (.int .i64 x) := fun s => Hc.out.1 s.w s.ok
  have k1 : ∀ s : Sub (fun w' => Below w1.heap.size w1 w'), s.w.cell? ⟨w.heap.size, 1, none⟩ = some (.int .i64 z) := fun s => Hc.out.2 s.w s.ok
  generalize w1.drew = va at *
  refine take_L (i := 0) rfl (by kernel_rfl) (by kernel_rfl) (by kernel_rfl) (by kernel_rfl) (fun _ _ _ _ h => h) (by exact hHeld) (fun K hK => ?_)
  go_simp
  refine hK _ ?_
  clear hK K
  refine take_L (i := 1) rfl (by kernel_rfl) (by kernel_rfl) (by kernel_rfl) (by kernel_rfl) (fun _ _ _ _ h => h) (by exact hHeld) (fun K hK => ?_)
  go_simp
  refine hK _ ?_
  clear hK K
  refine take_L (i := 2) rfl (by kernel_rfl) (by kernel_rfl) (by kernel_rfl) (by kernel_rfl) (fun _ _ _ _ h => h) (by exact hHeld) (fun K hK => ?_)
  go_simp
  refine hK _ ?_
  clear hK K
  refine take_L (i := 4) rfl (by kernel_rfl) (by kernel_rfl) (by kernel_rfl) (by kernel_rfl) (fun _ _ _ _ h => h) (by exact hHeld) (fun K hK => ?_)
  go_simp
  refine hK _ ?_
  clear hK K
  refine take_L (i := 5) rfl (by kernel_rfl) (by kernel_rfl) (by kernel_rfl) (by kernel_rfl) (fun _ _ _ _ h => h) (by exact hHeld) (fun K hK => ?_)
  go_simp
  refine hK _ ?_
  clear hK K
  refine take_L (i := 6) rfl (by kernel_rfl) (by kernel_rfl) (by kernel_rfl) (by kernel_rfl) (fun _ _ _ _ h => h) (by exact hHeld) (fun K hK => ?_)
  go_simp
  refine hK _ ?_
  clear hK K
  refine one_L (i := 3) (by kernel_rfl) rfl (fun K hK => ?_)
  go_simp
  refine (HJt.out _ hHeld).mono ?_
  rintro _ vb ⟨hb1, a1, c1, rfl, hT1⟩
  replace hHeld : (fun w' => Below w1.heap.size w1 w') vb := Below.trans hHeld (hb1.mono (Below.size hHeld))
  have HT1 : Hid (TksAt vb a1 T) := hT1
  clear hb1 hT1
  refine hK.out _ _ (fun _ => hHeld) ?_
  clear hK K
  refine one_L (i := 7) (by kernel_rfl) rfl (fun K hK => ?_)
  go_simp
  refine (HJu.out _ hHeld).mono ?_
  rintro _ vc ⟨hb2, a2, c2, rfl, hT2⟩
  replace hHeld : (fun w' => Below w1.heap.size w1 w') vc := Below.trans hHeld (hb2.mono (Below.size hHeld))
  have HT2 : Hid (TksAt vc a2 T) := hT2
  have HT3 : Hid (TksAt vc a1 T) := HT1.out.on hb2
  clear hb2 hT2 HT1
  refine hK.out _ _ (fun _ => hHeld) ?_
  clear hK K
  refine one_L (i := 8) (by kernel_rfl) rfl (fun K hK => ?_)
  go_simp
  refine (tasks_c a1 a2 tn c1 c2 T vc HT3.out HT2.out Htn.out.symm (by omega)).mono ?_
  rintro _ vd ⟨rfl, hb3⟩
  replace hHeld : (fun w' => Below w1.heap.size w1 w') vd := Below.trans hHeld (hb3.mono (Below.size hHeld))
  clear hb3 HT2 HT3
  refine hK.out _ _ (fun _ => hHeld) ?_
  clear hK K
  refine one_L (i := 9) (by kernel_rfl) rfl (fun K hK => ?_)
  go_simp
  refine hK.out _ _ (fun h => absurd rfl h) ?_
  clear hK K
  refine done_L (by kernel_rfl) ?_ _
  have Hq2 : Hid (Below w1.heap.size w1 vd) := hHeld
  clear hHeld hne k0 k1 HJt HJu Hq va vb vc
  go_wp2_with fail
  refine region_L (fun w' => Below w1.heap.size w1 w') 11 (by kernel_rfl) ?_
  have hHeld : (fun w' => Below w1.heap.size w1 w') vd.drew := Hq2.out.drew
  have hne : Nonempty (Sub (fun w' => Below w1.heap.size w1 w')) := ⟨⟨_, hHeld⟩⟩
  have k0 : ∀ s : Sub (fun w' => Below w1.heap.size w1 w'), s.w.cell? ⟨w.heap.size, 0, none⟩ = some (.int .i64 x) := fun s => Hc.out.1 s.w s.ok
  have k1 : ∀ s : Sub (fun w' => Below w1.heap.size w1 w'), s.w.cell? ⟨w.heap.size, 1, none⟩ = some (.int .i64 z) := fun s => Hc.out.2 s.w s.ok
  generalize vd.drew = ua at *
  refine take_L (i := 0) rfl (by kernel_rfl) (by kernel_rfl) (by kernel_rfl) (by kernel_rfl) (fun _ _ _ _ h => h) (by exact hHeld) (fun K hK => ?_)
  go_simp
  refine hK _ ?_
  clear hK K
  refine take_L (i := 1) rfl (by kernel_rfl) (by kernel_rfl) (by kernel_rfl) (by kernel_rfl) (fun _ _ _ _ h => h) (by exact hHeld) (fun K hK => ?_)
  go_simp
  refine hK _ ?_
  clear hK K
  refine take_L (i := 2) rfl (by kernel_rfl) (by kernel_rfl) (by kernel_rfl) (by kernel_rfl) (fun _ _ _ _ h => h) (by exact hHeld) (fun K hK => ?_)
  go_simp
  refine hK _ ?_
  clear hK K
  refine take_L (i := 3) rfl (by kernel_rfl) (by kernel_rfl) (by kernel_rfl) (by kernel_rfl) (fun _ _ _ _ h => h) (by exact hHeld) (fun K hK => ?_)
  go_simp
  refine hK _ ?_
  clear hK K
  refine take_L (i := 5) rfl (by kernel_rfl) (by kernel_rfl) (by kernel_rfl) (by kernel_rfl) (fun _ _ _ _ h => h) (by exact hHeld) (fun K hK => ?_)
  go_simp
  refine hK _ ?_
  clear hK K
  refine take_L (i := 6) rfl (by kernel_rfl) (by kernel_rfl) (by kernel_rfl) (by kernel_rfl) (fun _ _ _ _ h => h) (by exact hHeld) (fun K hK => ?_)
  go_simp
  refine hK _ ?_
  clear hK K
  refine take_L (i := 7) rfl (by kernel_rfl) (by kernel_rfl) (by kernel_rfl) (by kernel_rfl) (fun _ _ _ _ h => h) (by exact hHeld) (fun K hK => ?_)
  go_simp
  refine hK _ ?_
  clear hK K
  refine take_L (i := 8) rfl (by kernel_rfl) (by kernel_rfl) (by kernel_rfl) (by kernel_rfl) (fun _ _ _ _ h => h) (by exact hHeld) (fun K hK => ?_)
  go_simp
  refine hK _ ?_
  clear hK K
  refine one_L (i := 4) (by kernel_rfl) rfl (fun K hK => ?_)
  go_simp
  refine (HJn.out _ hHeld).mono ?_
  rintro _ ub ⟨hb1, p1, d1, rfl, hT1⟩
  replace hHeld : (fun w' => Below w1.heap.size w1 w') ub := Below.trans hHeld (hb1.mono (Below.size hHeld))
  have HT1 : Hid (TksAt ub p1 N) := hT1
  clear hb1 hT1
  refine hK.out _ _ (fun _ => hHeld) ?_
  clear hK K
  refine one_L (i := 9) (by kernel_rfl) rfl (fun K hK => ?_)
  go_simp
  refine (HJo.out _ hHeld).mono ?_
  rintro _ uc ⟨hb2, p2, d2, rfl, hT2⟩
  replace hHeld : (fun w' => Below w1.heap.size w1 w') uc := Below.trans hHeld (hb2.mono (Below.size hHeld))
  have HT2 : Hid (TksAt uc p2 N) := hT2
  have HT3 : Hid (TksAt uc p1 N) := HT1.out.on hb2
  clear hb2 hT2 HT1
  refine hK.out _ _ (fun _ => hHeld) ?_
  clear hK K
  refine one_L (i := 10) (by kernel_rfl) rfl (fun K hK => ?_)
  go_simp
  refine (tasks_c p1 p2 nn d1 d2 N uc HT3.out HT2.out Hnn.out.symm (by omega)).mono ?_
  rintro _ ud ⟨rfl, hb3⟩
  replace hHeld : (fun w' => Below w1.heap.size w1 w') ud := Below.trans hHeld (hb3.mono (Below.size hHeld))
  clear hb3 HT2 HT3
  refine hK.out _ _ (fun _ => hHeld) ?_
  clear hK K
  refine one_L (i := 11) (by kernel_rfl) rfl (fun K hK => ?_)
  go_simp
  refine hK.out _ _ (fun h => absurd rfl h) ?_
  clear hK K
  refine done_L (by kernel_rfl) ?_ _
  have R := HP.out ud (Hbz.out ud hHeld)
  clear HP hHeld hne k0 k1 HJn HJo Hq2
  go_wp2
  exact R
end Go.Proofs.Ytokjbjfpgjincaa
