/-
  DiskDoes: the walk.
-/
import Derived.Test.YtfpcfgfpebdplaaOpsz
import Derived.Test.YtfpcfgfpebdplaaFilw
namespace Go.Proofs.Ytfpcfgfpebdplaa
open Go.RowKit Go.Maps

theorem mlen_r (B d r : Nat) (Sd S : St) (f1 f2 f3 : Int) (w : World) (hM : Mix B w d Sd r S) :
    Calls Try.prog 17 #[.pointer (some ⟨r, 0, none⟩), .agg #[.int .i64 f1, .int .i64 f2, .int .i64 f3]] w fun e w' => e = .returned (.int .i64 (lenOf (at_ S.l) (f1, f2, f3))) ∧ Below w.heap.size w w' := by
  obtain ⟨Fd, Fr, h1, h2, h3, h4⟩ := hM
  exact rlen_c Fr r S f1 f2 f3 w h2
theorem does_c (d r j : Nat) (S : St) (ok f1 f2 f3 oi : Int) (oa : Option Addr) (on oc : Nat) (ob : List Int) (W w : World) (b off k : Nat) (hO : OpAt W b off k ⟨ok, (f1, f2, f3), oi, oa, on, oc, ob⟩) (hN : Below W.heap.size W w) (hM : Mix W.heap.size w d S r S) (hF : Few S j) (hj : j < 1000) (hr : on ≤ reachBytes) :
    Calls Try.prog 10 #[.pointer (some ⟨d, 0, none⟩), .pointer (some ⟨r, 0, none⟩), .agg #[.int .i64 ok, .int .i64 f1, .int .i64 f2, .int .i64 f3, .int .i64 oi, .slice oa on oc]] w (DoesSay W.heap.size d r j w) := by
  have hf : I64F (f1, f2, f3) := ⟨hO.bd.2.1, hO.bd.2.2.1, hO.bd.2.2.2⟩
  by_cases h0 : ok = 0
  · subst h0
    have hr2 := reachBytes_lt
    exact does_write W.heap.size d r j S f1 f2 f3 oi oa on oc ob hf w hM hN.size hF hj (fun w' hb => (hO.on (hN.trans hb)).by_) hO.nil (by omega)
  · by_cases h1 : ok = 1
    · subst h1
      exact does_read W.heap.size d r j S f1 f2 f3 oi oa on oc hf hO.bd.1 w hM hN.size hF
    · exact does_power W.heap.size d r j S ok f1 f2 f3 oi oa on oc hO.bd.1 w hM hN.size hF h0 h1
theorem exec_eqb {o : Oper} {ρ : Operand → Value} {x y : Operand} (a : Bool) (w : World) (ho : o.op = .binOp .eql 4 x y 4) (h1 : ρ x = .bool (!a)) (h2 : ρ y = .bool a) :
    (execOp ρ o).run Try.prog w = .ok (.value (.bool false)) w := by
  unfold execOp
  simp only [ho, h1, h2]
  cases a
  · go_simp
  · go_simp

set_option maxRecDepth 1000000 in
set_option maxHeartbeats 8000000 in
theorem diskDoes_walk (a : Option Addr) (len cap : Nat) (l : List Oc) (W : World) (hl : l.length = len) (hO : Ops W a l) (hZ : ∀ i (h : i < l.length), l[i].n ≤ reachBytes) :
    Calls Try.prog 3 #[.slice a len cap] W fun e W' => e = .returned (.bool true) ∧ Below W.heap.size W W' := by
  obtain ⟨Post, hPost⟩ : ∃ Post : Ending → World → Prop, Post = fun e w' => e = .returned (.bool true) ∧ Below W.heap.size W w' := ⟨_, rfl⟩
  rw [← hPost]
  have HP : Hid (∀ w', Below W.heap.size W w' → Post (.returned (.bool true)) w') := fun w' h => by rw [hPost]; exact ⟨rfl, h⟩
  clear hPost
  have HOps : Hid (Ops W a l) := hO
  have Hl : Hid (l.length = len) := hl
  have HZ : Hid (∀ i (h : i < l.length), l[i].n ≤ reachBytes) := hZ
  clear hO hl hZ
  go_enter Try.func3, Try.ntmps3
  go_wp2_with fail
  refine (awake_c W).mono ?_
  rintro e w0 ⟨rfl, hb0⟩
  have HN0 : Hid (Below W.heap.size W w0) := hb0
  clear hb0
  go_wp2_with fail
  refine (hnew W.heap.size (fun _ => False) w0 HN0.out.size (fun _ h => h.elim)).mono ?_
  rintro e w1 ⟨d, rfl, hD1, hb1⟩
  have HD1 : Hid (Hold W.heap.size (fun _ => False) w1 d St.new) := hD1
  have HN1 : Hid (Below W.heap.size W w1) := HN0.out.trans (hb1.mono HN0.out.size)
  clear hb1 hD1 HN0
  by_cases hlong : 300 < len
  · have hlen' : (300 : Int) < len := by omega
    have R := HP.out w1 HN1.out
    clear HP HD1 HN1
    go_wp2
    exact R
  · have hlen' : (len : Int) ≤ 300 := by omega
    go_wp2_with fail
    refine (rnew_c w1).mono ?_
    rintro e w2 ⟨⟨r, Fr, rfl, hR2, hF1, hF2⟩, hb2⟩
    have HM2 : Hid (Mix W.heap.size w2 d St.new r St.new) := Mix.new HD1.out hb2 hR2 hF1 hF2 HN1.out.size
    have HN2 : Hid (Below W.heap.size W w2) := HN1.out.trans (hb2.mono HN1.out.size)
    clear hR2 hF1 hF2 hb2 HD1 HN1
    go_wp2
    go_loopw [6] (fun v6 wr => ∃ (j : Nat), j ≤ len ∧ v6 = .int .i64 (j : Int) ∧ Hid (∃ S, Mix W.heap.size wr d S r S ∧ Few S j) ∧ Hid (Below W.heap.size W wr)) (fun v6 _ => len - (intOf v6).toNat)
    case atStart => exact ⟨0, Nat.zero_le _, rfl, ⟨_, HM2.out, Few.new⟩, HN2.out⟩
    case round =>
      obtain ⟨j, hj, rfl, HS, HN⟩ := hrel
      by_cases hlt : j < len
      · have hlt' : (j : Int) < len := by omega
        have hjl : j < l.length := by rw [Hl.out]; exact hlt
        obtain ⟨S, hM0, hF0⟩ := HS.out
        have HM : Hid (Mix W.heap.size wr d S r S) := hM0
        have HF : Hid (Few S j) := hF0
        obtain ⟨b, off, rfl, hO⟩ := HOps.out j hjl
        have hz := HZ.out j hjl
        generalize l[j] = o at hO hz
        obtain ⟨ok, ⟨g1, g2, g3⟩, oi, oa, on, oc, ob⟩ := o
        have HO : Hid (OpAt W b off j ⟨ok, (g1, g2, g3), oi, oa, on, oc, ob⟩) := hO
        have Hg : Hid (I64F (g1, g2, g3)) := ⟨hO.bd.2.1, hO.bd.2.2.1, hO.bd.2.2.2⟩
        have Hz : Hid (on ≤ reachBytes) := hz
        have hOr := hO.on HN.out
        have x0 := hOr.c0
        have x1 := hOr.c1
        have x2 := hOr.c2
        have x3 := hOr.c3
        have x4 := hOr.c4
        have x5 := hOr.c5
        clear hO hz hOr hM0 hF0 HS hjl
        simp only at x0 x1 x2 x3 x4 x5
        go_wp2_with fail
        refine (does_c d r j S ok g1 g2 g3 oi oa on oc ob W wr b off j HO.out HN.out HM.out HF.out (by omega) Hz.out).mono ?_
        rintro e w4 ⟨rfl, hb4, S', hM4, hF4⟩
        have HM4 : Hid (Mix W.heap.size w4 d S' r S') := hM4
        have HF4 : Hid (Few S' (j + 1)) := hF4
        have HN4 : Hid (Below W.heap.size W w4) := HN.out.trans hb4
        obtain ⟨fs, hfs⟩ : ∃ fs, fs = filesOf (at_ S'.l) := ⟨_, rfl⟩
        have Hfs : Hid (fs = filesOf (at_ S'.l)) := hfs
        have hfl : fs.length < 1000000 := by have h1 := files_len S'.l; have h2 := hF4.1; rw [← hfs] at h1; omega
        clear hb4 hM4 hF4 hfs x0 x1 x2 x3 x4 x5 HM HF HN
        go_wp2_with fail
        refine (mfiles_d W.heap.size d r S' S' w4 HM4.out).mono ?_
        rintro e w5 ⟨a5, n5, c5, rfl, hf5, hb5⟩
        rw [← Hfs.out] at hf5
        have HM5 : Hid (Mix W.heap.size w5 d S' r S') := HM4.out.inside hb5
        have HN5 : Hid (Below W.heap.size W w5) := HN4.out.trans (hb5.mono HN4.out.size)
        have Hf5 : Hid (Fls w5 a5 n5 fs) := hf5
        clear hf5 hb5 HM4 HN4
        go_wp2_with fail
        refine (mfiles_r W.heap.size d r S' S' w5 HM5.out).mono ?_
        rintro e w6 ⟨a6, n6, c6, rfl, hf6, hb6⟩
        rw [← Hfs.out] at hf6
        have HM6 : Hid (Mix W.heap.size w6 d S' r S') := HM5.out.inside hb6
        have HN6 : Hid (Below W.heap.size W w6) := HN5.out.trans (hb6.mono HN5.out.size)
        have Hf56 : Hid (Fls w6 a5 n5 fs) := Hf5.out.later hb6
        have Hf6 : Hid (Fls w6 a6 n6 fs) := hf6
        clear hf6 hb6 HM5 HN5 Hf5
        go_wp2_with fail
        refine (files_c a5 a6 n5 n6 c5 c6 fs fs w6 Hf56.out Hf6.out (by have := Hf56.out.n; omega) (by have := Hf6.out.n; omega)).mono ?_
        rintro e w7 ⟨rfl, kk, rfl⟩
        rw [decide_eq_true rfl]
        have HM7 : Hid (Mix W.heap.size (w6.drewN kk) d S' r S') := HM6.out.drewN kk
        have HN7 : Hid (Below W.heap.size W (w6.drewN kk)) := ⟨HN6.out.os, HN6.out.tape, HN6.out.output, HN6.out.size, HN6.out.block⟩
        clear HM6 HN6 Hf56 Hf6
        generalize w6.drewN kk = w7 at *
        go_wp2
        refine region_L (fun w' => Mix W.heap.size w' d S' r S' ∧ Below W.heap.size W w') 41 (by kernel_rfl) ?_
        have HMa : Hid (Mix W.heap.size w7.drew d S' r S') := HM7.out.drew
        have HNa : Hid (Below W.heap.size W w7.drew) := HN7.out.drew
        clear HM7 HN7
        generalize w7.drew = va at *
        obtain ⟨LL, hLL⟩ : ∃ LL, LL = lenOf (at_ S'.l) (g1, g2, g3) := ⟨_, rfl⟩
        have HLL : Hid (LL = lenOf (at_ S'.l) (g1, g2, g3)) := hLL
        clear hLL
        have hHeld : (fun w' => Mix W.heap.size w' d S' r S' ∧ Below W.heap.size W w') _ := ⟨HMa.out, HNa.out⟩
        have hne : Nonempty (Sub (fun w' => Mix W.heap.size w' d S' r S' ∧ Below W.heap.size W w')) := ⟨⟨_, hHeld⟩⟩
        have k1 : ∀ s : Sub (fun w' => Mix W.heap.size w' d S' r S' ∧ Below W.heap.size W w'), s.w.cell? ⟨b, off + j * 6 + 1, none⟩ = some (.int .i64 g1) := fun s => (HO.out.on s.ok.2).c1
        have k2 : ∀ s : Sub (fun w' => Mix W.heap.size w' d S' r S' ∧ Below W.heap.size W w'), s.w.cell? ⟨b, off + j * 6 + 2, none⟩ = some (.int .i64 g2) := fun s => (HO.out.on s.ok.2).c2
        have k3 : ∀ s : Sub (fun w' => Mix W.heap.size w' d S' r S' ∧ Below W.heap.size W w'), s.w.cell? ⟨b, off + j * 6 + 3, none⟩ = some (.int .i64 g3) := fun s => (HO.out.on s.ok.2).c3
        have k4 : ∀ s : Sub (fun w' => Mix W.heap.size w' d S' r S' ∧ Below W.heap.size W w'), s.w.cell? ⟨r, 1, none⟩ = some (.bool S'.out) := fun s => s.ok.1.rcells.1
        have k5 : ∀ s : Sub (fun w' => Mix W.heap.size w' d S' r S' ∧ Below W.heap.size W w'), s.w.cell? ⟨r, 4, none⟩ = some (.int .i64 S'.writes) := fun s => s.ok.1.rcells.2
        refine take_N (i := 0) rfl (by kernel_rfl) (by kernel_rfl) (by kernel_rfl) (by rfl) (fun _ _ _ _ h => h) (by exact hHeld) (fun K hK => ?_)
        go_simp
        refine hK _ ?_
        clear hK K
        refine take_N (i := 1) rfl (by kernel_rfl) (by kernel_rfl) (by kernel_rfl) (by rfl) (fun _ _ _ _ h => h) (by exact hHeld) (fun K hK => ?_)
        go_simp
        refine hK _ ?_
        clear hK K
        refine take_N (i := 2) rfl (by kernel_rfl) (by kernel_rfl) (by kernel_rfl) (by rfl) (fun _ _ _ _ h => h) (by exact hHeld) (fun K hK => ?_)
        go_simp
        refine hK _ ?_
        clear hK K
        refine take_N (i := 3) rfl (by kernel_rfl) (by kernel_rfl) (by kernel_rfl) (by rfl) (fun _ _ _ _ h => h) (by exact hHeld) (fun K hK => ?_)
        go_simp
        refine hK _ ?_
        clear hK K
        refine take_N (i := 4) rfl (by kernel_rfl) (by kernel_rfl) (by kernel_rfl) (by rfl) (fun _ _ _ _ h => h) (by exact hHeld) (fun K hK => ?_)
        go_simp
        refine hK _ ?_
        clear hK K
        refine take_N (i := 5) rfl (by kernel_rfl) (by kernel_rfl) (by kernel_rfl) (by rfl) (fun _ _ _ _ h => h) (by exact hHeld) (fun K hK => ?_)
        go_simp
        refine hK _ ?_
        clear hK K
        refine take_N (i := 6) rfl (by kernel_rfl) (by kernel_rfl) (by kernel_rfl) (by rfl) (fun _ _ _ _ h => h) (by exact hHeld) (fun K hK => ?_)
        go_simp
        refine hK _ ?_
        clear hK K
        refine take_N (i := 7) rfl (by kernel_rfl) (by kernel_rfl) (by kernel_rfl) (by rfl) (fun _ _ _ _ h => h) (by exact hHeld) (fun K hK => ?_)
        go_simp
        refine hK _ ?_
        clear hK K
        refine take_N (i := 9) rfl (by kernel_rfl) (by kernel_rfl) (by kernel_rfl) (by rfl) (fun _ _ _ _ h => h) (by exact hHeld) (fun K hK => ?_)
        go_simp
        refine hK _ ?_
        clear hK K
        refine take_N (i := 10) rfl (by kernel_rfl) (by kernel_rfl) (by kernel_rfl) (by rfl) (fun _ _ _ _ h => h) (by exact hHeld) (fun K hK => ?_)
        go_simp
        refine hK _ ?_
        clear hK K
        refine take_N (i := 11) rfl (by kernel_rfl) (by kernel_rfl) (by kernel_rfl) (by rfl) (fun _ _ _ _ h => h) (by exact hHeld) (fun K hK => ?_)
        go_simp
        refine hK _ ?_
        clear hK K
        refine take_N (i := 12) rfl (by kernel_rfl) (by kernel_rfl) (by kernel_rfl) (by rfl) (fun _ _ _ _ h => h) (by exact hHeld) (fun K hK => ?_)
        go_simp
        refine hK _ ?_
        clear hK K
        refine one_L (i := 8) (by kernel_rfl) rfl (fun K hK => ?_)
        go_simp
        refine (mon W.heap.size d r S' S' va HMa.out).mono ?_
        rintro _ wq ⟨rfl, hwq⟩
        replace hwq := hwq.symm
        subst hwq
        replace hHeld : (fun w' => Mix W.heap.size w' d S' r S' ∧ Below W.heap.size W w') _ := hHeld
        refine hK.out _ _ (fun _ => hHeld) ?_
        clear hK K
        refine give_N (i := 13) (.bool false) rfl (by kernel_rfl) (by kernel_rfl) (by kernel_rfl) (by rfl) (fun _ _ _ _ h => h) (by exact hHeld) (by rfl) (fun s => exec_eqb S'.out s.w rfl rfl rfl) ?_
        refine take_N (i := 14) rfl (by kernel_rfl) (by kernel_rfl) (by kernel_rfl) (by rfl) (fun _ _ _ _ h => h) (by exact hHeld) (fun K hK => ?_)
        go_simp
        refine hK _ ?_
        clear hK K
        refine take_N (i := 15) rfl (by kernel_rfl) (by kernel_rfl) (by kernel_rfl) (by rfl) (fun _ _ _ _ h => h) (by exact hHeld) (fun K hK => ?_)
        go_simp
        refine hK _ ?_
        clear hK K
        refine take_N (i := 16) rfl (by kernel_rfl) (by kernel_rfl) (by kernel_rfl) (by rfl) (fun _ _ _ _ h => h) (by exact hHeld) (fun K hK => ?_)
        go_simp
        refine hK _ ?_
        clear hK K
        refine take_N (i := 18) rfl (by kernel_rfl) (by kernel_rfl) (by kernel_rfl) (by rfl) (fun _ _ _ _ h => h) (by exact hHeld) (fun K hK => ?_)
        go_simp
        refine hK _ ?_
        clear hK K
        refine take_N (i := 19) rfl (by kernel_rfl) (by kernel_rfl) (by kernel_rfl) (by rfl) (fun _ _ _ _ h => h) (by exact hHeld) (fun K hK => ?_)
        go_simp
        refine hK _ ?_
        clear hK K
        refine take_N (i := 20) rfl (by kernel_rfl) (by kernel_rfl) (by kernel_rfl) (by rfl) (fun _ _ _ _ h => h) (by exact hHeld) (fun K hK => ?_)
        go_simp
        refine hK _ ?_
        clear hK K
        refine take_N (i := 21) rfl (by kernel_rfl) (by kernel_rfl) (by kernel_rfl) (by rfl) (fun _ _ _ _ h => h) (by exact hHeld) (fun K hK => ?_)
        go_simp
        refine hK _ ?_
        clear hK K
        refine one_L (i := 17) (by kernel_rfl) rfl (fun K hK => ?_)
        go_simp
        refine (mwrites W.heap.size d r S' S' va HMa.out).mono ?_
        rintro _ wq ⟨rfl, hwq⟩
        replace hwq := hwq.symm
        subst hwq
        replace hHeld : (fun w' => Mix W.heap.size w' d S' r S' ∧ Below W.heap.size W w') _ := hHeld
        refine hK.out _ _ (fun _ => hHeld) ?_
        clear hK K
        refine take_N (i := 22) rfl (by kernel_rfl) (by kernel_rfl) (by kernel_rfl) (by rfl) (fun _ _ _ _ h => h) (by exact hHeld) (fun K hK => ?_)
        go_simp
        refine hK _ ?_
        clear hK K
        refine take_N (i := 23) rfl (by kernel_rfl) (by kernel_rfl) (by kernel_rfl) (by rfl) (fun _ _ _ _ h => h) (by exact hHeld) (fun K hK => ?_)
        go_simp
        refine hK _ ?_
        clear hK K
        refine take_N (i := 24) rfl (by kernel_rfl) (by kernel_rfl) (by kernel_rfl) (by rfl) (fun _ _ _ _ h => h) (by exact hHeld) (fun K hK => ?_)
        go_simp
        refine hK _ ?_
        clear hK K
        refine take_N (i := 25) rfl (by kernel_rfl) (by kernel_rfl) (by kernel_rfl) (by rfl) (fun _ _ _ _ h => h) (by exact hHeld) (fun K hK => ?_)
        go_simp
        refine hK _ ?_
        clear hK K
        refine take_N (i := 26) rfl (by kernel_rfl) (by kernel_rfl) (by kernel_rfl) (by rfl) (fun _ _ _ _ h => h) (by exact hHeld) (fun K hK => ?_)
        go_simp
        refine hK _ ?_
        clear hK K
        refine take_N (i := 27) rfl (by kernel_rfl) (by kernel_rfl) (by kernel_rfl) (by rfl) (fun _ _ _ _ h => h) (by exact hHeld) (fun K hK => ?_)
        go_simp
        refine hK _ ?_
        clear hK K
        refine take_N (i := 28) rfl (by kernel_rfl) (by kernel_rfl) (by kernel_rfl) (by rfl) (fun _ _ _ _ h => h) (by exact hHeld) (fun K hK => ?_)
        go_simp
        refine hK _ ?_
        clear hK K
        refine take_N (i := 29) rfl (by kernel_rfl) (by kernel_rfl) (by kernel_rfl) (by rfl) (fun _ _ _ _ h => h) (by exact hHeld) (fun K hK => ?_)
        go_simp
        refine hK _ ?_
        clear hK K
        refine take_N (i := 30) rfl (by kernel_rfl) (by kernel_rfl) (by kernel_rfl) (by rfl) (fun _ _ _ _ h => h) (by exact hHeld) (fun K hK => ?_)
        go_simp
        refine hK _ ?_
        clear hK K
        refine take_N (i := 32) rfl (by kernel_rfl) (by kernel_rfl) (by kernel_rfl) (by rfl) (fun _ _ _ _ h => h) (by exact hHeld) (fun K hK => ?_)
        go_simp
        refine hK _ ?_
        clear hK K
        refine take_N (i := 33) rfl (by kernel_rfl) (by kernel_rfl) (by kernel_rfl) (by rfl) (fun _ _ _ _ h => h) (by exact hHeld) (fun K hK => ?_)
        go_simp
        refine hK _ ?_
        clear hK K
        refine take_N (i := 34) rfl (by kernel_rfl) (by kernel_rfl) (by kernel_rfl) (by rfl) (fun _ _ _ _ h => h) (by exact hHeld) (fun K hK => ?_)
        go_simp
        refine hK _ ?_
        clear hK K
        refine take_N (i := 35) rfl (by kernel_rfl) (by kernel_rfl) (by kernel_rfl) (by rfl) (fun _ _ _ _ h => h) (by exact hHeld) (fun K hK => ?_)
        go_simp
        refine hK _ ?_
        clear hK K
        refine take_N (i := 36) rfl (by kernel_rfl) (by kernel_rfl) (by kernel_rfl) (by rfl) (fun _ _ _ _ h => h) (by exact hHeld) (fun K hK => ?_)
        go_simp
        refine hK _ ?_
        clear hK K
        refine take_N (i := 37) rfl (by kernel_rfl) (by kernel_rfl) (by kernel_rfl) (by rfl) (fun _ _ _ _ h => h) (by exact hHeld) (fun K hK => ?_)
        go_simp
        refine hK _ ?_
        clear hK K
        refine one_L (i := 31) (by kernel_rfl) rfl (fun K hK => ?_)
        go_simp
        refine (mlen_d W.heap.size d r S' S' g1 g2 g3 Hg.out va HMa.out).mono ?_
        rintro _ vb ⟨rfl, hbb⟩
        rw [← HLL.out]
        have HMb : Hid (Mix W.heap.size vb d S' r S') := HMa.out.inside hbb
        have HNb : Hid (Below W.heap.size W vb) := HNa.out.trans (hbb.mono HNa.out.size)
        clear hbb
        replace hHeld : (fun w' => Mix W.heap.size w' d S' r S' ∧ Below W.heap.size W w') _ := ⟨HMb.out, HNb.out⟩
        refine hK.out _ _ (fun _ => hHeld) ?_
        clear hK K
        refine one_L (i := 38) (by kernel_rfl) rfl (fun K hK => ?_)
        go_simp
        refine (mlen_r W.heap.size d r S' S' g1 g2 g3 vb HMb.out).mono ?_
        rintro _ vc ⟨rfl, hbc⟩
        rw [← HLL.out]
        have HMc : Hid (Mix W.heap.size vc d S' r S') := HMb.out.inside hbc
        have HNc : Hid (Below W.heap.size W vc) := HNb.out.trans (hbc.mono HNb.out.size)
        clear hbc
        replace hHeld : (fun w' => Mix W.heap.size w' d S' r S' ∧ Below W.heap.size W w') _ := ⟨HMc.out, HNc.out⟩
        refine hK.out _ _ (fun _ => hHeld) ?_
        clear hK K
        refine take_N (i := 39) rfl (by kernel_rfl) (by kernel_rfl) (by kernel_rfl) (by rfl) (fun _ _ _ _ h => h) (by exact hHeld) (fun K hK => ?_)
        go_simp
        refine hK _ ?_
        clear hK K
        refine take_N (i := 40) rfl (by kernel_rfl) (by kernel_rfl) (by kernel_rfl) (by rfl) (fun _ _ _ _ h => h) (by exact hHeld) (fun K hK => ?_)
        go_simp
        refine hK _ ?_
        clear hK K
        refine done_L (by kernel_rfl) ?_ _
        clear hHeld hne k1 k2 k3 k4 k5 HMa HNa HMb HNb
        go_wp2
        go_roundw
        case rel => exact ⟨j + 1, by omega, by simp, ⟨S', HMc.out, HF4.out⟩, HNc.out⟩
        case measure => simp [intOf]; omega
      · have R := HP.out wr HN.out
        go_wp2
        exact R
end Go.Proofs.Ytfpcfgfpebdplaa
