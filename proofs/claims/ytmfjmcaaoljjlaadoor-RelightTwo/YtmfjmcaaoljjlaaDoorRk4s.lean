/-
  The landed darken, walked.
-/
import Derived.Test.YtmfjmcaaoljjlaaDoorRk3
import Derived.WalkMore
set_option maxRecDepth 20000
namespace Go.Proofs.YtmfjmcaaoljjlaaDoor
open C Go.RowKit L
attribute [local go_sem] Oper.semAt_some

attribute [local go_sem] run_store_func
theorem meth57 (p : Nat) (w : World) : (method 202 57 (.agg #[.pointer (some ⟨p, 0, none⟩)]) "outcrop/relight.shines").run Tryd.prog w = .ok (64, .agg #[.pointer (some ⟨p, 0, none⟩)]) w := by kernel_rfl
set_option maxRecDepth 1000000 in
set_option maxHeartbeats 16000000 in
theorem darken_sky (e : LE) (o : LO e) (hsky : e.sky = true) (ks0 ls0 : List Int) (c : Nat) (hC : Chg e ks0 c) (hl : LightOf (sys0 e o.bx ks0) e.n ls0) (w : World) (hM : LM e w) (hp : Pre w e.g 5 ls0) :
    Calls Tryd.prog 27 #[.pointer (some ⟨e.q, e.o, none⟩), .int .i64 (c : Int)] w fun x w' => ∃ d db dc, x = .returned (.slice (some ⟨db, 0, none⟩) d.length dc) ∧ DarkG e o w d db w' := by
  obtain ⟨Post, hPost⟩ : ∃ Post : Ending → World → Prop, Post = fun x w' => ∃ d db dc, x = .returned (.slice (some ⟨db, 0, none⟩) d.length dc) ∧ DarkG e o w d db w' := ⟨_, rfl⟩
  rw [← hPost]
  have HP : Hid (∀ (d : List Nat) db dc w', DarkG e o w d db w' → Post (.returned (.slice (some ⟨db, 0, none⟩) d.length dc)) w') := fun d db dc w' h => by rw [hPost]; exact ⟨d, db, dc, rfl, h⟩
  clear hPost
  have hsrc : e.src = .iface 57 (.agg #[.pointer (some ⟨e.p, 0, none⟩)]) := by unfold LE.src; rw [hsky]; rfl
  have HM : Hid (LM e w ∧ Pre w e.g 5 ls0 ∧ Chg e ks0 c ∧ LightOf (sys0 e o.bx ks0) e.n ls0 ∧ e.src = .iface 57 (.agg #[.pointer (some ⟨e.p, 0, none⟩)])) := ⟨hM, hp, hC, hl, hsrc⟩
  have hcn := hC.lt
  have hnb := o.nb
  have hcb : c < 294912 := by omega
  obtain ⟨W0, hW0⟩ : ∃ W0, W0 = ((w.alloc (.cells #[.pointer (some ⟨e.q, e.o, none⟩)] 67)).alloc (.cells #[.slice none 0 0] 62)).alloc (.cells #[.func (.func 37) #[] #[.pointer (some ⟨w.heap.size + 1, 0, none⟩), .pointer (some ⟨w.heap.size, 0, none⟩)]] 61) := ⟨_, rfl⟩
  obtain ⟨hsz, hbel, h0, h1, h2⟩ := chain3 w _ _ _ hW0
  have HW0 : Hid (W0 = ((w.alloc (.cells #[.pointer (some ⟨e.q, e.o, none⟩)] 67)).alloc (.cells #[.slice none 0 0] 62)).alloc (.cells #[.func (.func 37) #[] #[.pointer (some ⟨w.heap.size + 1, 0, none⟩), .pointer (some ⟨w.heap.size, 0, none⟩)]] 61)) := hW0
  obtain ⟨bx, hbx⟩ : ∃ bx, w.heap.size = bx := ⟨_, rfl⟩
  obtain ⟨b5, hb5⟩ : ∃ b5, w.heap.size + 1 = b5 := ⟨_, rfl⟩
  obtain ⟨b6, hb6⟩ : ∃ b6, w.heap.size + 1 + 1 = b6 := ⟨_, rfl⟩
  rw [hb6, hb5, hbx] at h2
  rw [hb5] at h1
  rw [hbx] at h0
  have HC0 : Hid (C1 e w b5 bx b6 ls0 c 0 W0) := ⟨none, 0, ls0, ⟨⟨rfl, .inl ⟨rfl, rfl⟩⟩, h1, h0, h2, hp.on hbel, hl.len, hl.lv, fun i => (congrFun (dim_nil _) i).symm, List.nodup_nil, (by intro x hx; cases hx), grown_below ⟨rfl, rfl, rfl, Nat.le_refl _, fun _ _ _ => rfl⟩ hbel, by omega⟩⟩
  have HB : Hid (w.heap.size = bx ∧ w.heap.size + 1 = b5 ∧ w.heap.size + 1 + 1 = b6) := ⟨hbx, hb5, hb6⟩
  clear hM hp hC hl hsz hbel h0 h1 h2 hsrc hbx hb5 hb6 hW0
  go_enter Tryd.func27, Tryd.ntmps27
  go_wp2_with fail
  go_step3
  go_wp2_with fail
  obtain ⟨hbx, hb5, hb6⟩ := HB.out
  rw [← HW0.out, hb6, hb5, hbx]
  clear HB HW0 hbx hb5 hb6
  go_step3
  go_wp2_with fail
  rename_i K aK
  have HK : Hid (∀ (x3 x4 x7 x8 x9 x10 x11 x12 x13 x14 x15 x16 x17 x18 x19 x20 x21 x22 x23 x24 x25 x26 x27 x28 x29 x30 x31 x32 x33 x34 x35 x36 x37 x38 x39 x40 x41 x42 x43 x44 x45 x46 x47 x48 x49 x50 x51 x52 x53 x54 x55 x56 x57 x58 x59 x60 x61 x62 : Value) (W : World), C3 ⟨e, w, b5, bx, b6, ls0, c, (sys0 e o.bx ks0).src⟩ o 0 W → K ⟨List.toArray ((.pointer (some ⟨e.q, e.o, none⟩)) :: (.int .i64 (c : Int)) :: (.pointer (some ⟨bx, 0, none⟩)) :: x3 :: x4 :: (.pointer (some ⟨b5, 0, none⟩)) :: (.pointer (some ⟨b6, 0, none⟩)) :: x7 :: x8 :: x9 :: x10 :: x11 :: x12 :: x13 :: x14 :: x15 :: x16 :: x17 :: x18 :: x19 :: x20 :: x21 :: x22 :: x23 :: x24 :: x25 :: x26 :: x27 :: x28 :: x29 :: x30 :: x31 :: x32 :: x33 :: x34 :: x35 :: x36 :: x37 :: x38 :: x39 :: x40 :: x41 :: x42 :: x43 :: x44 :: x45 :: x46 :: x47 :: x48 :: x49 :: x50 :: x51 :: x52 :: x53 :: x54 :: x55 :: x56 :: x57 :: x58 :: x59 :: x60 :: x61 :: x62 :: []), []⟩ W) := by
    intro x3 x4 x7 x8 x9 x10 x11 x12 x13 x14 x15 x16 x17 x18 x19 x20 x21 x22 x23 x24 x25 x26 x27 x28 x29 x30 x31 x32 x33 x34 x35 x36 x37 x38 x39 x40 x41 x42 x43 x44 x45 x46 x47 x48 x49 x50 x51 x52 x53 x54 x55 x56 x57 x58 x59 x60 x61 x62 W h
    refine aK _ _ ?_
    clear aK
    have H1 : Hid (C3 ⟨e, w, b5, bx, b6, ls0, c, (sys0 e o.bx ks0).src⟩ o 0 W) := h
    clear h HC0 K
    go_wp2_with fail
    go_loopw [8] (fun vx wr => ∃ k : Nat, k ≤ e.n ∧ vx = .int .i64 (k : Int) ∧ Hid (C3 ⟨e, w, b5, bx, b6, ls0, c, (sys0 e o.bx ks0).src⟩ o k wr)) (fun vx _ => e.n + 1 - (intOf vx).toNat)
    case atStart => exact ⟨0, by omega, rfl, H1⟩
    case round =>
      clear H1
      obtain ⟨k, hk, rfl, HJ⟩ := hrel
      obtain ⟨d, a, cc, ls, hD⟩ := HJ.out
      have hD : Dc ⟨e, w, b5, bx, b6, ls0, c, (sys0 e o.bx ks0).src⟩ o k d a cc ls wr := hD
      have hq : Dq e w b5 bx b6 ls0 d a cc ls wr := hD.q
      have hdn : d.length ≤ e.n := hq.small
      obtain ⟨ga, hga, hdk⟩ := ownD_dk hq.own (fun q => by have := hD.mem; rw [q] at this; cases this)
      subst hga
      have x5 : wr.cell? ⟨b5, 0, none⟩ = some (.slice (some ⟨ga, 0, none⟩) d.length cc) := (cell_of_row wr b5 0 _ 62 (0, 0) hq.h5).trans rfl
      have HD : Hid (Dc ⟨e, w, b5, bx, b6, ls0, c, (sys0 e o.bx ks0).src⟩ o k d (some ⟨ga, 0, none⟩) cc ls wr ∧ Dk wr ga d) := ⟨hD, hdk⟩
      obtain ⟨N, hN⟩ : ∃ N, d.length = N := ⟨_, rfl⟩
      have HN : Hid (d.length = N) := hN
      rw [hN] at x5 hdn
      by_cases hx : k < N
      case neg =>
        have hx' : ¬ (k : Int) < (N : Int) := by omega
        have R := HP.out d ga cc wr (by
          have h1 := hD.kd
          have hkk : k = d.length := by have h1 : k ≤ d.length := h1; omega
          have hsh := hD.sh
          rw [hkk] at hsh
          exact ⟨hdk, ⟨ls, hq.pl, hq.len, hq.lv, dark_ready o HM.out.2.2.1 hD.mem hD.src HM.out.2.2.2.1 hsh hq.dm⟩, hq.dn, hq.small, hq.gr⟩)
        rw [hN] at R
        clear HJ HP HM hD hq hdk HD HN hN
        go_wp2
        exact R
      have hx' : (k : Int) < (N : Int) := by omega
      obtain ⟨m, hm⟩ : ∃ m, d[k]? = some m := ⟨d[k]'(by rw [hN]; exact hx), List.getElem?_eq_getElem _⟩
      obtain ⟨g2, hg2, c0, c1⟩ := ownD_at hq.own hm
      obtain rfl : ga = g2 := by injection hg2 with h; injection h
      have hmn : m < e.n := hq.dn m (List.mem_of_getElem? hm)
      have Hm : Hid (d[k]? = some m ∧ m < e.n) := ⟨hm, hmn⟩
      obtain ⟨H, hH⟩ : ∃ H, ls0.getD m 0 = H := ⟨_, rfl⟩
      rw [hH] at c1
      have hb9 : Below wr.heap.size wr (wr.alloc (.cells #[.int .i64 H] 3)) := (Below.refl _ _).alloc (Nat.le_refl _) _
      have HKI : Hid (KI ⟨e, w, b5, bx, b6, ls0, c, (sys0 e o.bx ks0).src⟩ o wr.heap.size k m [] (wr.alloc (.cells #[.int .i64 H] 3))) := ⟨d, _, cc, ls, hD.on hb9, hm, (by have q := heap_alloc_new wr (.cells #[.int .i64 H] 3); rw [← hH] at q ⊢; exact q), (by intro i hi; cases hi)⟩
      have HDk : Hid (Dk (wr.alloc (.cells #[.int .i64 H] 3)) ga d) := hdk.on hb9
      have Hcells : Hid ((wr.alloc (.cells #[.int .i64 H] 3)).cell? ⟨ga, k * 2, none⟩ = some (.int .i64 (m : Int)) ∧ (wr.alloc (.cells #[.int .i64 H] 3)).cell? ⟨b5, 0, none⟩ = some (.slice (some ⟨ga, 0, none⟩) N cc)) := ⟨cell_below c0 hb9, cell_below x5 hb9⟩
      have hkn : k * 2 + 1 < 9223372036854775807 := by omega
      clear hN hD hq hdk hm hg2 hb9 hmn HJ hH HD
      go_upto_region 13 with fail
      clear x5 c0 c1
      generalize wr.alloc (.cells #[.int .i64 H] 3) = w1 at *
      generalize wr.heap.size = b9 at *
      refine region_L (ReadsK bx b5 e.q e.o ga k (.pointer (some ⟨e.p, 0, none⟩)) (.slice (some ⟨ga, 0, none⟩) N cc) (.int .i64 (m : Int))) 10 (by kernel_rfl) ?_
      have hb1 : Below w1.heap.size w1 w1.drew := (Below.refl _ w1).drew
      have hHeld : ReadsK bx b5 e.q e.o ga k (.pointer (some ⟨e.p, 0, none⟩)) (.slice (some ⟨ga, 0, none⟩) N cc) (.int .i64 (m : Int)) w1.drew := by
        obtain ⟨d', a', cc', ls', hD', _⟩ := HKI.out
        have hq' : Dq e w b5 bx b6 ls0 d' a' cc' ls' w1 := hD'.q
        exact ⟨cell_below ((cell_of_row w1 bx 0 _ 67 (0, 0) hq'.hb).trans rfl) hb1, cell_below (hq'.lm o HM.out.1).l0 hb1, cell_below Hcells.out.2 hb1, cell_below Hcells.out.1 hb1⟩
      have HKI1 : Hid (KI ⟨e, w, b5, bx, b6, ls0, c, (sys0 e o.bx ks0).src⟩ o b9 k m [] w1.drew) := HKI.out.on hb1
      clear hb1 HKI HDk Hcells
      generalize w1.drew = va at *
      have hne : Nonempty (Sub (ReadsK bx b5 e.q e.o ga k (.pointer (some ⟨e.p, 0, none⟩)) (.slice (some ⟨ga, 0, none⟩) N cc) (.int .i64 (m : Int)))) := ⟨⟨_, hHeld⟩⟩
      have k1 : ∀ s : Sub (ReadsK bx b5 e.q e.o ga k (.pointer (some ⟨e.p, 0, none⟩)) (.slice (some ⟨ga, 0, none⟩) N cc) (.int .i64 (m : Int))), s.w.cell? ⟨bx, 0, none⟩ = some (.pointer (some ⟨e.q, e.o, none⟩)) := fun s => s.ok.b
      have k2 : ∀ s : Sub (ReadsK bx b5 e.q e.o ga k (.pointer (some ⟨e.p, 0, none⟩)) (.slice (some ⟨ga, 0, none⟩) N cc) (.int .i64 (m : Int))), s.w.cell? ⟨e.q, e.o, none⟩ = some (.pointer (some ⟨e.p, 0, none⟩)) := fun s => s.ok.l
      have k3 : ∀ s : Sub (ReadsK bx b5 e.q e.o ga k (.pointer (some ⟨e.p, 0, none⟩)) (.slice (some ⟨ga, 0, none⟩) N cc) (.int .i64 (m : Int))), s.w.cell? ⟨b5, 0, none⟩ = some (.slice (some ⟨ga, 0, none⟩) N cc) := fun s => s.ok.s
      have k4 : ∀ s : Sub (ReadsK bx b5 e.q e.o ga k (.pointer (some ⟨e.p, 0, none⟩)) (.slice (some ⟨ga, 0, none⟩) N cc) (.int .i64 (m : Int))), s.w.cell? ⟨ga, k * 2, none⟩ = some (.int .i64 (m : Int)) := fun s => s.ok.a
      refine take_LC (i := 0) [3, 2, 1] rfl (by kernel_rfl) (by kernel_rfl) (by kernel_rfl) (by kernel_rfl) (by kernel_rfl) (fun _ _ _ _ h => h) (by exact hHeld) (fun K hK => ?_)
      go_simp
      refine hK _ ?_
      clear hK K
      refine take_LC (i := 1) [3, 2] rfl (by kernel_rfl) (by kernel_rfl) (by kernel_rfl) (by kernel_rfl) (by kernel_rfl) (fun _ _ _ _ h => h) (by exact hHeld) (fun K hK => ?_)
      go_simp
      refine hK _ ?_
      clear hK K
      refine take_LC (i := 2) [3] rfl (by kernel_rfl) (by kernel_rfl) (by kernel_rfl) (by kernel_rfl) (by kernel_rfl) (fun _ _ _ _ h => h) (by exact hHeld) (fun K hK => ?_)
      go_simp
      refine hK _ ?_
      clear hK K
      refine take_L (i := 3) rfl (by kernel_rfl) (by kernel_rfl) (by kernel_rfl) (by kernel_rfl) (fun _ _ _ _ h => h) (by exact hHeld) (fun K hK => ?_)
      go_simp
      refine hK _ ?_
      clear hK K
      refine take_LC (i := 4) [8, 7, 6] rfl (by kernel_rfl) (by kernel_rfl) (by kernel_rfl) (by kernel_rfl) (by kernel_rfl) (fun _ _ _ _ h => h) (by exact hHeld) (fun K hK => ?_)
      go_simp
      refine hK _ ?_
      clear hK K
      refine take_LC (i := 5) [8, 7, 6] rfl (by kernel_rfl) (by kernel_rfl) (by kernel_rfl) (by kernel_rfl) (by kernel_rfl) (fun _ _ _ _ h => h) (by exact hHeld) (fun K hK => ?_)
      go_simp
      refine hK _ ?_
      clear hK K
      refine take_LC (i := 6) [8, 7] rfl (by kernel_rfl) (by kernel_rfl) (by kernel_rfl) (by kernel_rfl) (by kernel_rfl) (fun _ _ _ _ h => h) (by exact hHeld) (fun K hK => ?_)
      go_simp
      refine hK _ ?_
      clear hK K
      refine take_LC (i := 7) [8] rfl (by kernel_rfl) (by kernel_rfl) (by kernel_rfl) (by kernel_rfl) (by kernel_rfl) (fun _ _ _ _ h => h) (by exact hHeld) (fun K hK => ?_)
      go_simp
      refine hK _ ?_
      clear hK K
      refine take_L (i := 8) rfl (by kernel_rfl) (by kernel_rfl) (by kernel_rfl) (by kernel_rfl) (fun _ _ _ _ h => h) (by exact hHeld) (fun K hK => ?_)
      go_simp
      refine hK _ ?_
      clear hK K
      refine take_L (i := 9) rfl (by kernel_rfl) (by kernel_rfl) (by kernel_rfl) (by kernel_rfl) (fun _ _ _ _ h => h) (by exact hHeld) (fun K hK => ?_)
      go_simp
      refine hK _ ?_
      clear hK K
      clear hne k1 k2 k3 k4
      have HC : Calls Tryd.prog 29 #[.pointer (some ⟨e.p, 0, none⟩), .int .i64 (m : Int), .func (.func 40) #[] #[.pointer (some ⟨bx, 0, none⟩), .pointer (some ⟨b9, 0, none⟩), .pointer (some ⟨b6, 0, none⟩)]] va fun x w' => x = .returned (.tuple #[]) ∧ KI ⟨e, w, b5, bx, b6, ls0, c, (sys0 e o.bx ks0).src⟩ o b9 k m (nbl e.W e.D e.T m) w' :=
        dark3_c ⟨e, w, b5, bx, b6, ls0, c, (sys0 e o.bx ks0).src⟩ o HM.out.1 HM.out.2.2.2.1.lv b9 k m Hm.out.2 va HKI1.out
      refine one_L (i := 10) (by kernel_rfl) rfl (fun K hK => ?_)
      go_simp
      refine HC.mono ?_
      rintro _ w6 ⟨rfl, hKI6⟩
      refine hK.out _ _ (fun h => absurd rfl h) ?_
      have HE : Hid (k + 1 ≤ e.n ∧ C3 ⟨e, w, b5, bx, b6, ls0, c, (sys0 e o.bx ks0).src⟩ o (k + 1) w6) := by
        obtain ⟨d', a', cc', ls', hD', hm', _, hnb'⟩ := hKI6
        have hlt : k < d'.length := (List.getElem?_eq_some_iff.1 hm').1
        have hsm : d'.length ≤ e.n := (show Dq e w b5 bx b6 ls0 d' a' cc' ls' w6 from hD'.q).small
        refine ⟨by omega, d', a', cc', ls', hD'.q, hD'.mem, hD'.src, ?_, hlt⟩
        exact hD'.sh.next hm' (fun i ha => hnb' i ((sys_adj (e := e) o.bx m i).1 ha).2)
      clear hK K HC hKI6 HKI1 hHeld Hm HN HP HM
      refine done_L (by kernel_rfl) ?_ _
      have wk : IntKind.i64.wrap ((k : Int) + 1) = ((k + 1 : Nat) : Int) := by rw [IntKind.wrap_i64]; omega
      go_wp2
      exact ⟨⟨k + 1, HE.out.1, rfl, HE.out.2⟩, by have := HE.out.1; simp [intOf]; omega⟩
  clear aK
  have hL0 : 0 < e.W * e.D := Nat.mul_pos o.bx.w0 o.bx.d0
  have hL1 : e.W * e.D ≤ 2304 := Nat.mul_le_mul o.bx.w1 o.bx.d1
  have HLy : Hid (∀ w, BM e w → Calls Tryd.prog 38 #[.pointer (some ⟨e.p, 0, none⟩)] w fun x w' => x = .returned (.int .i64 ((e.W * e.D : Nat) : Int)) ∧ Below w.heap.size w w') := fun w h => layer_c e o w h
  have HX : Hid (∀ (t : Nat) W, 0 < t → (c < t * (e.W * e.D) ∨ (e.sky = true → skyN e.W e.D e.T (fun j => e.ks.getD j 0) (c - t * (e.W * e.D)) = skyN e.W e.D e.T (fun j => ks0.getD j 0) (c - t * (e.W * e.D)))) → C1 e w b5 bx b6 ls0 c t W → C3 ⟨e, w, b5, bx, b6, ls0, c, (sys0 e o.bx ks0).src⟩ o 0 W) := fun t W ht hx ⟨a, cc, ls, hq⟩ =>
    ⟨_, a, cc, ls, hq, colD_mem.2 ⟨0, ht, by show c - 0 * (e.W * e.D) = c; omega⟩, col_src o HM.out.2.2.1 ht hx, (by intro m hm; rw [List.take_zero] at hm; cases hm), Nat.zero_le _⟩
  have HS : Hid (∀ (t : Nat) W a cc ls, t * (e.W * e.D) ≤ c → Dq e w b5 bx b6 ls0 (colD c (e.W * e.D) t) a cc ls W → ls.getD (c - t * (e.W * e.D)) 0 = ls0.getD (c - t * (e.W * e.D)) 0) := fun t W a cc ls hle hq => by
    have h1 := hq.dm (c - t * (e.W * e.D))
    rw [dim_out (colD_not (Nat.mul_pos o.bx.w0 o.bx.d0) hle)] at h1
    have h2 := (hq.lv (c - t * (e.W * e.D))).1
    have h3 := (HM.out.2.2.2.1.lv (c - t * (e.W * e.D))).1
    unfold li at h1
    omega
  have HT : Hid (∀ (t : Nat) W a cc ls, t * (e.W * e.D) ≤ c → Dq e w b5 bx b6 ls0 (colD c (e.W * e.D) t) a cc ls W → Calls Tryd.prog 37 #[.int .i64 ((c - t * (e.W * e.D) : Nat) : Int), .pointer (some ⟨b5, 0, none⟩), .pointer (some ⟨bx, 0, none⟩)] W fun x w' => x = .returned (.tuple #[]) ∧ C1 e w b5 bx b6 ls0 c (t + 1) w') := fun t W a cc ls hle hq =>
    (take_c e o w HM.out.1 b5 bx b6 ls0 HM.out.2.2.2.1.lv _ a cc ls W hq (c - t * (e.W * e.D)) (by omega) (colD_not (Nat.mul_pos o.bx.w0 o.bx.d0) hle)).mono (by
      rintro _ w' ⟨rfl, ⟨a', c', h⟩, _⟩
      exact ⟨rfl, a', c', ls.set (c - t * (e.W * e.D)) 0, by rw [colD_succ]; exact h⟩)
  obtain ⟨S, hS⟩ : ∃ S, e.W * e.D = S := ⟨_, rfl⟩
  have HSe : Hid (e.W * e.D = S) := hS
  rw [hS] at hL0 hL1 HLy HX HS HT
  clear hS
  go_loopw [7] (fun vx wr => ∃ t : Nat, t * S ≤ c + S ∧ vx = .int .i64 ((c : Int) - ((t * S : Nat) : Int)) ∧ Hid (C1 e w b5 bx b6 ls0 c t wr)) (fun vx _ => (intOf vx + (S : Int)).toNat)
  case atStart => exact ⟨0, by omega, by simp, HC0⟩
  case round =>
    clear HC0
    obtain ⟨t, hts, rfl, HJ⟩ := hrel
    obtain ⟨TS, hTS⟩ : ∃ TS, t * S = TS := ⟨_, rfl⟩
    rw [hTS] at hts
    have HTS : Hid (t * S = TS) := hTS
    by_cases hle : TS ≤ c
    case neg =>
      have hneg : ¬ (0 : Int) ≤ (c : Int) - ((t * S : Nat) : Int) := by rw [hTS]; omega
      have R := HX.out t wr (by rcases Nat.eq_zero_or_pos t with q | q; (rw [q] at hTS; omega); exact q) (.inl (by rw [hTS]; omega)) HJ.out
      clear HX HS HT HJ HLy HM HP hTS
      go_wp2
      exact HK.out _ _ _ _ _ _ _ _ _ _ _ _ _ _ _ _ _ _ _ _ _ _ _ _ _ _ _ _ _ _ _ _ _ _ _ _ _ _ _ _ _ _ _ _ _ _ _ _ _ _ _ _ _ _ _ _ _ _ wr R
    obtain ⟨i, hi⟩ : ∃ i, c - TS = i := ⟨_, rfl⟩
    have hib : i ≤ c := by omega
    have hiI : (c : Int) - ((t * S : Nat) : Int) = (i : Int) := by rw [hTS]; omega
    rw [hiI]
    have hge : (0 : Int) ≤ (i : Int) := by omega
    have Hi : Hid (c - t * S = i ∧ t * S ≤ c) := ⟨by rw [hTS]; exact hi, by rw [hTS]; exact hle⟩
    by_cases ht : t = 0
    · have hic : i = c := by rw [ht] at hTS; omega
      have HJw : Hid (C1 e w b5 bx b6 ls0 c t wr) := HJ.out
      clear HJ hTS hi hiI
      obtain rfl : i = c := hic
      generalize wr = w1 at *
      have HJz : C1 e w b5 bx b6 ls0 i t w1 := HJw.out
      clear HJw
      have HJw : Hid (C1 e w b5 bx b6 ls0 i t w1) := HJz
      obtain ⟨a2, cc2, ls2, hq2⟩ := HJw.out
      have x6 : w1.cell? ⟨b6, 0, none⟩ = some (.func (.func 37) #[] #[.pointer (some ⟨b5, 0, none⟩), .pointer (some ⟨bx, 0, none⟩)]) := (cell_of_row w1 b6 0 _ 61 (0, 0) hq2.h6).trans rfl
      have hq2S := hq2
      rw [HSe.out] at hq2S
      have hT := HT.out t w1 a2 cc2 ls2 Hi.out.2 hq2S
      rw [Hi.out.1] at hT
      clear hq2 hq2S HJw HJz
      go_wp2_with fail
      refine hT.mono ?_
      rintro _ w2 ⟨rfl, hC2⟩
      have HC2 : Hid (C1 e w b5 bx b6 ls0 i (t + 1) w2) := hC2
      obtain ⟨a3, cc3, ls3, hq3⟩ := hC2
      have hM3 := hq3.lm o HM.out.1
      have y3 : w2.cell? ⟨bx, 0, none⟩ = some (.pointer (some ⟨e.q, e.o, none⟩)) := (cell_of_row w2 bx 0 _ 67 (0, 0) hq3.hb).trans rfl
      have z3 := hM3.l0
      have hly := HLy.out w2 hM3.bm
      have wi : IntKind.i64.wrap ((i : Int) - (S : Int)) = (i : Int) - (S : Int) := by rw [IntKind.wrap_i64]; omega
      clear hq3 hM3 hT x6
      go_wp2_with fail
      refine hly.mono ?_
      rintro _ w3 ⟨rfl, hb3⟩
      have HE : Hid (C1 e w b5 bx b6 ls0 i (t + 1) w3) := by
        obtain ⟨a4, cc4, ls4, hq4⟩ := HC2.out
        exact ⟨a4, cc4, ls4, hq4.on hb3⟩
      have HEi : Hid ((i : Int) - (S : Int) = (i : Int) - (((t + 1) * S : Nat) : Int) ∧ (t + 1) * S ≤ i + S) := by
        obtain ⟨h1, h2⟩ := Hi.out
        rw [Nat.succ_mul]
        exact ⟨by omega, by omega⟩
      clear hly HC2 hb3 y3 z3 HX HS HT HLy HK HM HP
      go_wp2
      exact ⟨⟨t + 1, HEi.out.2, by rw [HEi.out.1], HE⟩, by simp [intOf]; omega⟩
    · have hic : ¬ i = c := by
        have : 1 * S ≤ t * S := Nat.mul_le_mul_right S (by omega)
        omega
      have hicI : ¬ (i : Int) = (c : Int) := by omega
      have Ht : Hid (0 < t) := by show 0 < t; omega
      obtain ⟨a, cc, ls, hq⟩ := HJ.out
      have xb : wr.cell? ⟨bx, 0, none⟩ = some (.pointer (some ⟨e.q, e.o, none⟩)) := (cell_of_row wr bx 0 _ 67 (0, 0) hq.hb).trans rfl
      have hMw := hq.lm o HM.out.1
      have y1 := hMw.l1
      rw [HM.out.2.2.2.2] at y1
      have hin : i < e.n := by omega
      have hqS := hq
      rw [HSe.out] at hqS
      have hgl : ls.getD i 0 = ls0.getD i 0 := by have := HS.out t wr a cc ls Hi.out.2 hqS; rwa [Hi.out.1] at this
      obtain ⟨bA, hbA⟩ : ∃ b : Bool, decide (ls.getD i 0 = 15) = b := ⟨_, rfl⟩
      obtain ⟨vS, hvS⟩ : ∃ v : Nat, skyN e.W e.D e.T (fun j => e.ks.getD j 0) i = v := ⟨_, rfl⟩
      have HLa : Hid (∀ s : Since wr, Calls Tryd.prog 39 #[.pointer (some ⟨e.q, e.o, none⟩), .int .i64 (i : Int)] s.w fun x w' => x = .returned (.bool bA) ∧ Below s.w.heap.size s.w w') := fun s => by
        have := shone_c e ls hq.len hq.lv o.nb i hin s.w (hMw.on s.bel) (hq.pl.on s.bel)
        rwa [hbA] at this
      have HLb : Hid (∀ s : Since wr, Calls Tryd.prog 64 #[.agg #[.pointer (some ⟨e.p, 0, none⟩)], .int .i64 (i : Int)] s.w fun x w' => x = .returned (.int .i64 (vS : Int)) ∧ Below s.w.heap.size s.w w') := fun s => by
        have := sky_c e o i hin s.w (hMw.bm.on s.bel)
        rwa [hvS] at this
      have HBV : Hid (decide (ls.getD i 0 = 15) = bA ∧ skyN e.W e.D e.T (fun j => e.ks.getD j 0) i = vS ∧ ls.getD i 0 = ls0.getD i 0 ∧ i < e.n) := ⟨hbA, hvS, hgl, hin⟩
      have HJq : Hid (Dq e w b5 bx b6 ls0 (colD c S t) a cc ls wr) := hqS
      clear hq hqS hMw hin hgl hbA hvS HJ hTS hi hiI hic
      rcases bA with _ | _
      · by_cases h15 : (vS : Int) = 15
        · go_wp2_with fail
          refine wp_region_since (by kernel_rfl) (by kernel_rfl) ?_
          have hsome := since_some wr
          have q0 := fun s : Since wr => Since.cell xb s
          have q1 := fun s : Since wr => Since.cell y1 s
          have hmeth := meth57 e.p
          repeat (go_big_quiet_step (first | (go_at_call 39; exact Calls.since (HLa.out _)) | (go_at_call 64; exact Calls.since (HLb.out _))))
          refine wpQuiet_nil ?_
          rintro _ ⟨s, rfl⟩
          have HJd : Hid (Dq e w b5 bx b6 ls0 (colD c S t) a cc ls s.w) := HJq.out.on s.bel
          generalize s.w = w1 at *
          clear hsome q0 q1 HLa HLb xb y1 HJq hmeth
          have HJz : C1 e w b5 bx b6 ls0 c t w1 := ⟨a, cc, ls, by rw [HSe.out]; exact HJd.out⟩
          clear HJd HBV
          have HJw : Hid (C1 e w b5 bx b6 ls0 c t w1) := HJz
          obtain ⟨a2, cc2, ls2, hq2⟩ := HJw.out
          have x6 : w1.cell? ⟨b6, 0, none⟩ = some (.func (.func 37) #[] #[.pointer (some ⟨b5, 0, none⟩), .pointer (some ⟨bx, 0, none⟩)]) := (cell_of_row w1 b6 0 _ 61 (0, 0) hq2.h6).trans rfl
          have hq2S := hq2
          rw [HSe.out] at hq2S
          have hT := HT.out t w1 a2 cc2 ls2 Hi.out.2 hq2S
          rw [Hi.out.1] at hT
          clear hq2 hq2S HJw HJz
          go_wp2_with fail
          refine hT.mono ?_
          rintro _ w2 ⟨rfl, hC2⟩
          have HC2 : Hid (C1 e w b5 bx b6 ls0 c (t + 1) w2) := hC2
          obtain ⟨a3, cc3, ls3, hq3⟩ := hC2
          have hM3 := hq3.lm o HM.out.1
          have y3 : w2.cell? ⟨bx, 0, none⟩ = some (.pointer (some ⟨e.q, e.o, none⟩)) := (cell_of_row w2 bx 0 _ 67 (0, 0) hq3.hb).trans rfl
          have z3 := hM3.l0
          have hly := HLy.out w2 hM3.bm
          have wi : IntKind.i64.wrap ((i : Int) - (S : Int)) = (i : Int) - (S : Int) := by rw [IntKind.wrap_i64]; omega
          clear hq3 hM3 hT x6
          go_wp2_with fail
          refine hly.mono ?_
          rintro _ w3 ⟨rfl, hb3⟩
          have HE : Hid (C1 e w b5 bx b6 ls0 c (t + 1) w3) := by
            obtain ⟨a4, cc4, ls4, hq4⟩ := HC2.out
            exact ⟨a4, cc4, ls4, hq4.on hb3⟩
          have HEi : Hid ((i : Int) - (S : Int) = (c : Int) - (((t + 1) * S : Nat) : Int) ∧ (t + 1) * S ≤ c + S) := by
            obtain ⟨h1, h2⟩ := Hi.out
            rw [Nat.succ_mul]
            exact ⟨by omega, by omega⟩
          clear hly HC2 hb3 y3 z3 HX HS HT HLy HK HM HP
          go_wp2
          exact ⟨⟨t + 1, HEi.out.2, by rw [HEi.out.1], HE⟩, by simp [intOf]; omega⟩
        · have h15' : ((vS : Int) == 15) = false := by simpa using h15
          go_wp2_with fail
          refine wp_region_since (by kernel_rfl) (by kernel_rfl) ?_
          have hsome := since_some wr
          have q0 := fun s : Since wr => Since.cell xb s
          have q1 := fun s : Since wr => Since.cell y1 s
          have hmeth := meth57 e.p
          repeat (go_big_quiet_step (first | (go_at_call 39; exact Calls.since (HLa.out _)) | (go_at_call 64; exact Calls.since (HLb.out _))))
          refine wpQuiet_nil ?_
          rintro _ ⟨s, rfl⟩
          have HJd : Hid (Dq e w b5 bx b6 ls0 (colD c S t) a cc ls s.w) := HJq.out.on s.bel
          generalize s.w = w1 at *
          clear hsome q0 q1 HLa HLb xb y1 HJq hmeth
          have R := HX.out t w1 Ht.out (.inr (fun hs => by
            have hT : L.Told (skyS e.W e.D e.T (fun j => ks0.getD j 0) o.bx.w0 o.bx.d0) (li ls0) := by
              have h := HM.out.2.2.2.1.told
              unfold sys0 LE.sys at h
              rw [if_pos (show (e.at ks0).sky = true from hs)] at h
              exact h
            have h1 := shone_sky hT (i := i) HBV.out.2.2.2
            have h2 := HBV.out.1
            have h3 := HBV.out.2.1
            have h4 := HBV.out.2.2.1
            rw [Hi.out.1]
            have h5 : ¬ ls.getD i 0 = 15 := of_decide_eq_false h2
            rw [h4] at h5
            have h6 : ¬ skyN e.W e.D e.T (fun j => ks0.getD j 0) i = 15 := fun q => h5 (by have := h1.2 q; unfold li at this; omega)
            have h7 : ¬ skyN e.W e.D e.T (fun j => e.ks.getD j 0) i = 15 := fun q => h15 (by rw [h3] at q; omega)
            unfold skyN at h6 h7 ⊢
            split at h6
            · exact absurd rfl h6
            · split at h7
              · exact absurd rfl h7
              · rename_i q1 q2
                rw [if_neg q1, if_neg q2])) ⟨a, cc, ls, by rw [HSe.out]; exact HJd.out⟩
          clear HX HS HT HLy HM HP HJd HBV
          go_wp2
          exact HK.out _ _ _ _ _ _ _ _ _ _ _ _ _ _ _ _ _ _ _ _ _ _ _ _ _ _ _ _ _ _ _ _ _ _ _ _ _ _ _ _ _ _ _ _ _ _ _ _ _ _ _ _ _ _ _ _ _ _ w1 R
      · by_cases h15 : (vS : Int) = 15
        · go_wp2_with fail
          refine wp_region_since (by kernel_rfl) (by kernel_rfl) ?_
          have hsome := since_some wr
          have q0 := fun s : Since wr => Since.cell xb s
          have q1 := fun s : Since wr => Since.cell y1 s
          have hmeth := meth57 e.p
          repeat (go_big_quiet_step (first | (go_at_call 39; exact Calls.since (HLa.out _)) | (go_at_call 64; exact Calls.since (HLb.out _))))
          refine wpQuiet_nil ?_
          rintro _ ⟨s, rfl⟩
          have HJd : Hid (Dq e w b5 bx b6 ls0 (colD c S t) a cc ls s.w) := HJq.out.on s.bel
          generalize s.w = w1 at *
          clear hsome q0 q1 HLa HLb xb y1 HJq hmeth
          have R := HX.out t w1 Ht.out (.inr (fun hs => by
            have hT : L.Told (skyS e.W e.D e.T (fun j => ks0.getD j 0) o.bx.w0 o.bx.d0) (li ls0) := by
              have h := HM.out.2.2.2.1.told
              unfold sys0 LE.sys at h
              rw [if_pos (show (e.at ks0).sky = true from hs)] at h
              exact h
            have h1 := shone_sky hT (i := i) HBV.out.2.2.2
            have h2 := HBV.out.1
            have h3 := HBV.out.2.1
            have h4 := HBV.out.2.2.1
            rw [Hi.out.1, h3]
            have h5 : ls.getD i 0 = 15 := of_decide_eq_true h2
            rw [h4] at h5
            rw [h1.1 (by unfold li; rw [h5]; rfl)]
            omega)) ⟨a, cc, ls, by rw [HSe.out]; exact HJd.out⟩
          clear HX HS HT HLy HM HP HJd HBV
          go_wp2
          exact HK.out _ _ _ _ _ _ _ _ _ _ _ _ _ _ _ _ _ _ _ _ _ _ _ _ _ _ _ _ _ _ _ _ _ _ _ _ _ _ _ _ _ _ _ _ _ _ _ _ _ _ _ _ _ _ _ _ _ _ w1 R
        · have h15' : ((vS : Int) == 15) = false := by simpa using h15
          go_wp2_with fail
          refine wp_region_since (by kernel_rfl) (by kernel_rfl) ?_
          have hsome := since_some wr
          have q0 := fun s : Since wr => Since.cell xb s
          have q1 := fun s : Since wr => Since.cell y1 s
          have hmeth := meth57 e.p
          repeat (go_big_quiet_step (first | (go_at_call 39; exact Calls.since (HLa.out _)) | (go_at_call 64; exact Calls.since (HLb.out _))))
          refine wpQuiet_nil ?_
          rintro _ ⟨s, rfl⟩
          have HJd : Hid (Dq e w b5 bx b6 ls0 (colD c S t) a cc ls s.w) := HJq.out.on s.bel
          generalize s.w = w1 at *
          clear hsome q0 q1 HLa HLb xb y1 HJq hmeth
          have HJz : C1 e w b5 bx b6 ls0 c t w1 := ⟨a, cc, ls, by rw [HSe.out]; exact HJd.out⟩
          clear HJd HBV
          have HJw : Hid (C1 e w b5 bx b6 ls0 c t w1) := HJz
          obtain ⟨a2, cc2, ls2, hq2⟩ := HJw.out
          have x6 : w1.cell? ⟨b6, 0, none⟩ = some (.func (.func 37) #[] #[.pointer (some ⟨b5, 0, none⟩), .pointer (some ⟨bx, 0, none⟩)]) := (cell_of_row w1 b6 0 _ 61 (0, 0) hq2.h6).trans rfl
          have hq2S := hq2
          rw [HSe.out] at hq2S
          have hT := HT.out t w1 a2 cc2 ls2 Hi.out.2 hq2S
          rw [Hi.out.1] at hT
          clear hq2 hq2S HJw HJz
          go_wp2_with fail
          refine hT.mono ?_
          rintro _ w2 ⟨rfl, hC2⟩
          have HC2 : Hid (C1 e w b5 bx b6 ls0 c (t + 1) w2) := hC2
          obtain ⟨a3, cc3, ls3, hq3⟩ := hC2
          have hM3 := hq3.lm o HM.out.1
          have y3 : w2.cell? ⟨bx, 0, none⟩ = some (.pointer (some ⟨e.q, e.o, none⟩)) := (cell_of_row w2 bx 0 _ 67 (0, 0) hq3.hb).trans rfl
          have z3 := hM3.l0
          have hly := HLy.out w2 hM3.bm
          have wi : IntKind.i64.wrap ((i : Int) - (S : Int)) = (i : Int) - (S : Int) := by rw [IntKind.wrap_i64]; omega
          clear hq3 hM3 hT x6
          go_wp2_with fail
          refine hly.mono ?_
          rintro _ w3 ⟨rfl, hb3⟩
          have HE : Hid (C1 e w b5 bx b6 ls0 c (t + 1) w3) := by
            obtain ⟨a4, cc4, ls4, hq4⟩ := HC2.out
            exact ⟨a4, cc4, ls4, hq4.on hb3⟩
          have HEi : Hid ((i : Int) - (S : Int) = (c : Int) - (((t + 1) * S : Nat) : Int) ∧ (t + 1) * S ≤ c + S) := by
            obtain ⟨h1, h2⟩ := Hi.out
            rw [Nat.succ_mul]
            exact ⟨by omega, by omega⟩
          clear hly HC2 hb3 y3 z3 HX HS HT HLy HK HM HP
          go_wp2
          exact ⟨⟨t + 1, HEi.out.2, by rw [HEi.out.1], HE⟩, by simp [intOf]; omega⟩
end Go.Proofs.YtmfjmcaaoljjlaaDoor
