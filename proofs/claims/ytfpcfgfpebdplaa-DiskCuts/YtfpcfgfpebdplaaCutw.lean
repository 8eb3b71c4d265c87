/-
  DiskCuts: the walk.
-/
import Derived.Test.YtfpcfgfpebdplaaDuo
namespace Go.Proofs.Ytfpcfgfpebdplaa
open Go.RowKit Go.Maps

set_option maxRecDepth 1000000 in
set_option maxHeartbeats 4000000 in
theorem diskCuts_walk (a : Option Addr) (len cap : Nat) (n : Int) (l : List Oc) (W : World) (hl : l.length = len) (hO : Ops W a l) (hn : I64 n) :
    Calls Try.prog 4 #[.slice a len cap, .int .i64 n] W fun e W' => e = .returned (.bool true) ∧ Below W.heap.size W W' := by
  obtain ⟨Post, hPost⟩ : ∃ Post : Ending → World → Prop, Post = fun e w' => e = .returned (.bool true) ∧ Below W.heap.size W w' := ⟨_, rfl⟩
  rw [← hPost]
  have HP : Hid (∀ w', Below W.heap.size W w' → Post (.returned (.bool true)) w') := fun w' h => by rw [hPost]; exact ⟨rfl, h⟩
  clear hPost
  have HOps : Hid (Ops W a l) := hO
  have Hl : Hid (l.length = len) := hl
  have hn1 : -9223372036854775808 ≤ n := hn.1
  have hn2 : n ≤ 9223372036854775807 := hn.2
  clear hO hl hn
  go_enter Try.func4, Try.ntmps4
  go_wp2_with fail
  refine (awake_c W).mono ?_
  rintro e w0 ⟨rfl, hb0⟩
  have HN0 : Hid (Below W.heap.size W w0) := hb0
  clear hb0
  go_wp2_with fail
  refine (hnew W.heap.size (fun _ => False) w0 HN0.out.size (fun _ h => h.elim)).mono ?_
  rintro e w1 ⟨d, rfl, hD1, hb1⟩
  have HD1 : Hid (Hold W.heap.size (fun _ => False) w1 d St.new) := hD1
  have HN1 : Hid (Below W.heap.size W w1) := HN0.out.trans (hb1.mono HN0.out.size)
  clear hb1 hD1 HN0
  go_wp2_with fail
  refine (hnew w1.heap.size (fun _ => False) w1 (Nat.le_refl _) (fun _ h => h.elim)).mono ?_
  rintro e w2 ⟨e2, rfl, hE2, hb2⟩
  have HU2 : Hid (Duo W.heap.size w2 d St.new e2 St.new) := Duo.new HD1.out hb2 hE2 HN1.out.size
  have HN2 : Hid (Below W.heap.size W w2) := HN1.out.trans (hb2.mono HN1.out.size)
  clear hb2 hE2 HN1 HD1
  by_cases hlen : 200 < len
  · have hlen' : (200 : Int) < len := by omega
    have R := HP.out w2 HN2.out
    clear HP HU2 HN2
    go_wp2
    exact R
  · have hlen' : (len : Int) ≤ 200 := by omega
    go_wp2_with fail
    refine (dcut W.heap.size d e2 St.new St.new n ⟨hn1, hn2⟩ w2 HU2.out HN2.out.size).mono ?_
    rintro e w3 ⟨rfl, hU3, hb3⟩
    have HN3 : Hid (Below W.heap.size W w3) := HN2.out.trans hb3
    have HI3 : Hid (∃ Sd Se, Duo W.heap.size w3 d Sd e2 Se ∧ CutInv n Sd Se 0 ∧ Few Sd 0 ∧ Few Se 0) := ⟨_, _, hU3, CutInv.start n, Few.new.cut n, Few.new⟩
    clear hU3 hb3 HU2 HN2
    go_wp2
    go_loopw [8, 9] (fun v8 v9 wr => ∃ (j dn : Nat), j ≤ len ∧ dn ≤ j ∧ v8 = .int .i64 (dn : Int) ∧ v9 = .int .i64 (j : Int) ∧ Hid (∃ Sd Se, Duo W.heap.size wr d Sd e2 Se ∧ CutInv n Sd Se dn ∧ Few Sd j ∧ Few Se j) ∧ Hid (Below W.heap.size W wr)) (fun _ v9 _ => len - (intOf v9).toNat)
    case atStart => exact ⟨0, 0, Nat.zero_le _, Nat.le_refl _, rfl, rfl, HI3.out, HN3.out⟩
    case round =>
      obtain ⟨j, dn, hj, hdj, rfl, rfl, HI, HN⟩ := hrel
      by_cases hlt : j < len
      · have hlt' : (j : Int) < len := by omega
        have hjl : j < l.length := by rw [Hl.out]; exact hlt
        obtain ⟨b, off, rfl, hO⟩ := HOps.out j hjl
        generalize l[j] = o at hO
        obtain ⟨ok, ⟨f1, f2, f3⟩, oi, oa, on, oc, ob⟩ := o
        have HO : Hid (OpAt W b off j ⟨ok, (f1, f2, f3), oi, oa, on, oc, ob⟩) := hO
        have Hf : Hid (I64F (f1, f2, f3)) := ⟨hO.bd.2.1, hO.bd.2.2.1, hO.bd.2.2.2⟩
        have Hi : Hid (I64 oi) := hO.bd.1
        have Hbn : Hid (ob.length = on) := hO.by_.n
        obtain ⟨Sd, Se, hU0, hI0, hF0, hG0⟩ := HI.out
        have HU : Hid (Duo W.heap.size wr d Sd e2 Se) := hU0
        have HC : Hid (CutInv n Sd Se dn) := hI0
        have HF : Hid (Few Sd j ∧ Few Se j) := ⟨hF0, hG0⟩
        have Hfw : Hid (Sd.writes ≤ 200) := by have := hF0.2.2; show Sd.writes ≤ 200; omega
        have Hfe : Hid (Se.writes ≤ 200) := by have := hG0.2.2; show Se.writes ≤ 200; omega
        clear hO hU0 hI0 hF0 hG0 HI hjl
        go_wp2
        refine region_L (fun w' => Below W.heap.size W w') 17 (by kernel_rfl) ?_
        have HUa : Hid (Duo W.heap.size wr.drew d Sd e2 Se) := HU.out.drew
        have HNa : Hid (Below W.heap.size W wr.drew) := HN.out.drew
        clear HN
        generalize wr.drew = va at *
        have hHeld : (fun w' => Below W.heap.size W w') _ := HNa.out
        have hne : Nonempty (Sub (fun w' => Below W.heap.size W w')) := ⟨⟨_, hHeld⟩⟩
        have k1 : ∀ s : Sub (fun w' => Below W.heap.size W w'), s.w.cell? ⟨b, off + j * 6 + 1, none⟩ = some (.int .i64 f1) := fun s => (HO.out.on s.ok).c1
        have k2 : ∀ s : Sub (fun w' => Below W.heap.size W w'), s.w.cell? ⟨b, off + j * 6 + 2, none⟩ = some (.int .i64 f2) := fun s => (HO.out.on s.ok).c2
        have k3 : ∀ s : Sub (fun w' => Below W.heap.size W w'), s.w.cell? ⟨b, off + j * 6 + 3, none⟩ = some (.int .i64 f3) := fun s => (HO.out.on s.ok).c3
        have k4 : ∀ s : Sub (fun w' => Below W.heap.size W w'), s.w.cell? ⟨b, off + j * 6 + 4, none⟩ = some (.int .i64 oi) := fun s => (HO.out.on s.ok).c4
        have k5 : ∀ s : Sub (fun w' => Below W.heap.size W w'), s.w.cell? ⟨b, off + j * 6 + 5, none⟩ = some (.slice oa on oc) := fun s => (HO.out.on s.ok).c5
        refine take_L (i := 0) rfl (by kernel_rfl) (by kernel_rfl) (by kernel_rfl) (by kernel_rfl) (fun _ _ _ _ h => h) (by exact hHeld) (fun K hK => ?_)
        go_simp
        refine hK _ ?_
        clear hK K
        refine take_L (i := 1) rfl (by kernel_rfl) (by kernel_rfl) (by kernel_rfl) (by kernel_rfl) (fun _ _ _ _ h => h) (by exact hHeld) (fun K hK => ?_)
        go_simp
        refine hK _ ?_
        clear hK K
        refine take_L (i := 2) rfl (by kernel_rfl) (by kernel_rfl) (by kernel_rfl) (by kernel_rfl) (fun _ _ _ _ h => h) (by exact hHeld) (fun K hK => ?_)
        go_simp
        refine hK _ ?_
        clear hK K
        refine take_L (i := 3) rfl (by kernel_rfl) (by kernel_rfl) (by kernel_rfl) (by kernel_rfl) (fun _ _ _ _ h => h) (by exact hHeld) (fun K hK => ?_)
        go_simp
        refine hK _ ?_
        clear hK K
        refine take_L (i := 4) rfl (by kernel_rfl) (by kernel_rfl) (by kernel_rfl) (by kernel_rfl) (fun _ _ _ _ h => h) (by exact hHeld) (fun K hK => ?_)
        go_simp
        refine hK _ ?_
        clear hK K
        refine take_L (i := 5) rfl (by kernel_rfl) (by kernel_rfl) (by kernel_rfl) (by kernel_rfl) (fun _ _ _ _ h => h) (by exact hHeld) (fun K hK => ?_)
        go_simp
        refine hK _ ?_
        clear hK K
        refine take_L (i := 6) rfl (by kernel_rfl) (by kernel_rfl) (by kernel_rfl) (by kernel_rfl) (fun _ _ _ _ h => h) (by exact hHeld) (fun K hK => ?_)
        go_simp
        refine hK _ ?_
        clear hK K
        refine take_L (i := 7) rfl (by kernel_rfl) (by kernel_rfl) (by kernel_rfl) (by kernel_rfl) (fun _ _ _ _ h => h) (by exact hHeld) (fun K hK => ?_)
        go_simp
        refine hK _ ?_
        clear hK K
        refine take_L (i := 8) rfl (by kernel_rfl) (by kernel_rfl) (by kernel_rfl) (by kernel_rfl) (fun _ _ _ _ h => h) (by exact hHeld) (fun K hK => ?_)
        go_simp
        refine hK _ ?_
        clear hK K
        refine take_L (i := 9) rfl (by kernel_rfl) (by kernel_rfl) (by kernel_rfl) (by kernel_rfl) (fun _ _ _ _ h => h) (by exact hHeld) (fun K hK => ?_)
        go_simp
        refine hK _ ?_
        clear hK K
        refine take_L (i := 10) rfl (by kernel_rfl) (by kernel_rfl) (by kernel_rfl) (by kernel_rfl) (fun _ _ _ _ h => h) (by exact hHeld) (fun K hK => ?_)
        go_simp
        refine hK _ ?_
        clear hK K
        refine take_L (i := 11) rfl (by kernel_rfl) (by kernel_rfl) (by kernel_rfl) (by kernel_rfl) (fun _ _ _ _ h => h) (by exact hHeld) (fun K hK => ?_)
        go_simp
        refine hK _ ?_
        clear hK K
        refine take_L (i := 12) rfl (by kernel_rfl) (by kernel_rfl) (by kernel_rfl) (by kernel_rfl) (fun _ _ _ _ h => h) (by exact hHeld) (fun K hK => ?_)
        go_simp
        refine hK _ ?_
        clear hK K
        refine take_L (i := 13) rfl (by kernel_rfl) (by kernel_rfl) (by kernel_rfl) (by kernel_rfl) (fun _ _ _ _ h => h) (by exact hHeld) (fun K hK => ?_)
        go_simp
        refine hK _ ?_
        clear hK K
        refine take_L (i := 14) rfl (by kernel_rfl) (by kernel_rfl) (by kernel_rfl) (by kernel_rfl) (fun _ _ _ _ h => h) (by exact hHeld) (fun K hK => ?_)
        go_simp
        refine hK _ ?_
        clear hK K
        refine take_L (i := 15) rfl (by kernel_rfl) (by kernel_rfl) (by kernel_rfl) (by kernel_rfl) (fun _ _ _ _ h => h) (by exact hHeld) (fun K hK => ?_)
        go_simp
        refine hK _ ?_
        clear hK K
        refine one_L (i := 16) (by kernel_rfl) rfl (fun K hK => ?_)
        go_simp
        refine (dwrite W.heap.size d e2 Sd Se f1 f2 f3 oi oa on oc ob Hf.out va HUa.out HNa.out.size (HO.out.on HNa.out).by_ (by have := Hfw.out; omega)).mono ?_
        rintro _ w4 ⟨rfl, hU, hb⟩
        have HU : Hid (Duo W.heap.size w4 d (Sd.write (f1, f2, f3) oi ob).2 e2 Se) := hU
        have HN : Hid (Below W.heap.size W w4) := HNa.out.trans hb
        clear hU hb
        replace hHeld : (fun w' => Below W.heap.size W w') _ := HN.out
        refine hK.out _ _ (fun _ => hHeld) ?_
        clear hK K
        refine one_L (i := 17) (by kernel_rfl) rfl (fun K hK => ?_)
        go_simp
        refine hK.out _ _ (fun h => absurd rfl h) ?_
        clear hK K
        refine done_L (by kernel_rfl) ?_ _
        clear hHeld hne k1 k2 k3 k4 k5 HUa HNa
        by_cases ha : argOk oi ob.length
        · by_cases hd : (dn : Int) < n
          · obtain ⟨q1, q2, q3⟩ := HC.out.done (f1, f2, f3) oi ob ha hd
            rw [q1]
            have HU1 : Hid (Duo W.heap.size w4 d (Sd.wrote (f1, f2, f3) oi ob) e2 Se) := by have := HU.out; rw [q1] at this; exact this
            have HC1 : Hid (CutInv n (Sd.wrote (f1, f2, f3) oi ob) (Se.wrote (f1, f2, f3) oi ob) (dn + 1)) := q3
            have HF1 : Hid (Few (Sd.wrote (f1, f2, f3) oi ob) (j + 1) ∧ Few (Se.wrote (f1, f2, f3) oi ob) (j + 1)) := by
              have h1 := HF.out.1.write (f1, f2, f3) oi ob
              have h2 := HF.out.2.write (f1, f2, f3) oi ob
              rw [q1] at h1
              rw [q2] at h2
              exact ⟨h1, h2⟩
            have Q2 : Hid (Se.write (f1, f2, f3) oi ob = (0, Se.wrote (f1, f2, f3) oi ob)) := q2
            clear q1 q2 q3 HC HF HU Hfw
            have Hfw := Hfe
            have hdw : IntKind.i64.wrap ((dn : Int) + 1) = (dn : Int) + 1 := wrapI (by omega)
            go_wp2
            refine region_L (fun w' => Below W.heap.size W w') 17 (by kernel_rfl) ?_
            have HUa : Hid (Duo W.heap.size w4.drew e2 Se d (Sd.wrote (f1, f2, f3) oi ob)) := HU1.out.swap.drew
            have HNa : Hid (Below W.heap.size W w4.drew) := HN.out.drew
            clear HN
            generalize w4.drew = va at *
            have hHeld : (fun w' => Below W.heap.size W w') _ := HNa.out
            have hne : Nonempty (Sub (fun w' => Below W.heap.size W w')) := ⟨⟨_, hHeld⟩⟩
            have k1 : ∀ s : Sub (fun w' => Below W.heap.size W w'), s.w.cell? ⟨b, off + j * 6 + 1, none⟩ = some (.int .i64 f1) := fun s => (HO.out.on s.ok).c1
            have k2 : ∀ s : Sub (fun w' => Below W.heap.size W w'), s.w.cell? ⟨b, off + j * 6 + 2, none⟩ = some (.int .i64 f2) := fun s => (HO.out.on s.ok).c2
            have k3 : ∀ s : Sub (fun w' => Below W.heap.size W w'), s.w.cell? ⟨b, off + j * 6 + 3, none⟩ = some (.int .i64 f3) := fun s => (HO.out.on s.ok).c3
            have k4 : ∀ s : Sub (fun w' => Below W.heap.size W w'), s.w.cell? ⟨b, off + j * 6 + 4, none⟩ = some (.int .i64 oi) := fun s => (HO.out.on s.ok).c4
            have k5 : ∀ s : Sub (fun w' => Below W.heap.size W w'), s.w.cell? ⟨b, off + j * 6 + 5, none⟩ = some (.slice oa on oc) := fun s => (HO.out.on s.ok).c5
            refine take_L (i := 0) rfl (by kernel_rfl) (by kernel_rfl) (by kernel_rfl) (by kernel_rfl) (fun _ _ _ _ h => h) (by exact hHeld) (fun K hK => ?_)
            go_simp
            refine hK _ ?_
            clear hK K
            refine take_L (i := 1) rfl (by kernel_rfl) (by kernel_rfl) (by kernel_rfl) (by kernel_rfl) (fun _ _ _ _ h => h) (by exact hHeld) (fun K hK => ?_)
            go_simp
            refine hK _ ?_
            clear hK K
            refine take_L (i := 2) rfl (by kernel_rfl) (by kernel_rfl) (by kernel_rfl) (by kernel_rfl) (fun _ _ _ _ h => h) (by exact hHeld) (fun K hK => ?_)
            go_simp
            refine hK _ ?_
            clear hK K
            refine take_L (i := 3) rfl (by kernel_rfl) (by kernel_rfl) (by kernel_rfl) (by kernel_rfl) (fun _ _ _ _ h => h) (by exact hHeld) (fun K hK => ?_)
            go_simp
            refine hK _ ?_
            clear hK K
            refine take_L (i := 4) rfl (by kernel_rfl) (by kernel_rfl) (by kernel_rfl) (by kernel_rfl) (fun _ _ _ _ h => h) (by exact hHeld) (fun K hK => ?_)
            go_simp
            refine hK _ ?_
            clear hK K
            refine take_L (i := 5) rfl (by kernel_rfl) (by kernel_rfl) (by kernel_rfl) (by kernel_rfl) (fun _ _ _ _ h => h) (by exact hHeld) (fun K hK => ?_)
            go_simp
            refine hK _ ?_
            clear hK K
            refine take_L (i := 6) rfl (by kernel_rfl) (by kernel_rfl) (by kernel_rfl) (by kernel_rfl) (fun _ _ _ _ h => h) (by exact hHeld) (fun K hK => ?_)
            go_simp
            refine hK _ ?_
            clear hK K
            refine take_L (i := 7) rfl (by kernel_rfl) (by kernel_rfl) (by kernel_rfl) (by kernel_rfl) (fun _ _ _ _ h => h) (by exact hHeld) (fun K hK => ?_)
            go_simp
            refine hK _ ?_
            clear hK K
            refine take_L (i := 8) rfl (by kernel_rfl) (by kernel_rfl) (by kernel_rfl) (by kernel_rfl) (fun _ _ _ _ h => h) (by exact hHeld) (fun K hK => ?_)
            go_simp
            refine hK _ ?_
            clear hK K
            refine take_L (i := 9) rfl (by kernel_rfl) (by kernel_rfl) (by kernel_rfl) (by kernel_rfl) (fun _ _ _ _ h => h) (by exact hHeld) (fun K hK => ?_)
            go_simp
            refine hK _ ?_
            clear hK K
            refine take_L (i := 10) rfl (by kernel_rfl) (by kernel_rfl) (by kernel_rfl) (by kernel_rfl) (fun _ _ _ _ h => h) (by exact hHeld) (fun K hK => ?_)
            go_simp
            refine hK _ ?_
            clear hK K
            refine take_L (i := 11) rfl (by kernel_rfl) (by kernel_rfl) (by kernel_rfl) (by kernel_rfl) (fun _ _ _ _ h => h) (by exact hHeld) (fun K hK => ?_)
            go_simp
            refine hK _ ?_
            clear hK K
            refine take_L (i := 12) rfl (by kernel_rfl) (by kernel_rfl) (by kernel_rfl) (by kernel_rfl) (fun _ _ _ _ h => h) (by exact hHeld) (fun K hK => ?_)
            go_simp
            refine hK _ ?_
            clear hK K
            refine take_L (i := 13) rfl (by kernel_rfl) (by kernel_rfl) (by kernel_rfl) (by kernel_rfl) (fun _ _ _ _ h => h) (by exact hHeld) (fun K hK => ?_)
            go_simp
            refine hK _ ?_
            clear hK K
            refine take_L (i := 14) rfl (by kernel_rfl) (by kernel_rfl) (by kernel_rfl) (by kernel_rfl) (fun _ _ _ _ h => h) (by exact hHeld) (fun K hK => ?_)
            go_simp
            refine hK _ ?_
            clear hK K
            refine take_L (i := 15) rfl (by kernel_rfl) (by kernel_rfl) (by kernel_rfl) (by kernel_rfl) (fun _ _ _ _ h => h) (by exact hHeld) (fun K hK => ?_)
            go_simp
            refine hK _ ?_
            clear hK K
            refine one_L (i := 16) (by kernel_rfl) rfl (fun K hK => ?_)
            go_simp
            refine (dwrite W.heap.size e2 d Se (Sd.wrote (f1, f2, f3) oi ob) f1 f2 f3 oi oa on oc ob Hf.out va HUa.out HNa.out.size (HO.out.on HNa.out).by_ (by have := Hfw.out; omega)).mono ?_
            rintro _ w5 ⟨rfl, hU, hb⟩
            have HU : Hid (Duo W.heap.size w5 e2 (Se.write (f1, f2, f3) oi ob).2 d (Sd.wrote (f1, f2, f3) oi ob)) := hU
            have HN : Hid (Below W.heap.size W w5) := HNa.out.trans hb
            clear hU hb
            replace hHeld : (fun w' => Below W.heap.size W w') _ := HN.out
            refine hK.out _ _ (fun _ => hHeld) ?_
            clear hK K
            refine one_L (i := 17) (by kernel_rfl) rfl (fun K hK => ?_)
            go_simp
            refine hK.out _ _ (fun h => absurd rfl h) ?_
            clear hK K
            refine done_L (by kernel_rfl) ?_ _
            clear hHeld hne k1 k2 k3 k4 k5 HUa HNa
            rw [Q2.out]
            have HU5 : Hid (Duo W.heap.size w5 d (Sd.wrote (f1, f2, f3) oi ob) e2 (Se.wrote (f1, f2, f3) oi ob)) := by have := HU.out.swap; rw [Q2.out] at this; exact this
            clear HU HU1
            go_wp2
            go_roundw
            case rel => exact ⟨j + 1, dn + 1, by omega, by omega, by simp, by simp, ⟨_, _, HU5.out, HC1.out, HF1.out.1, HF1.out.2⟩, HN.out⟩
            case measure => simp [intOf]; omega
          · have q := HC.out.down (f1, f2, f3) oi ob ha hd
            rw [q]
            have HU1 : Hid (Duo W.heap.size w4 d Sd e2 Se) := by have := HU.out; rw [q] at this; exact this
            clear q HU
            go_wp2
            go_roundw
            case rel => exact ⟨j + 1, dn, by omega, by omega, rfl, by simp, ⟨_, _, HU1.out, HC.out, HF.out.1.more (by omega), HF.out.2.more (by omega)⟩, HN.out⟩
            case measure => simp [intOf]; omega
        · have q := (write_arg2 Sd Se (f1, f2, f3) oi ob ha).1
          rw [q]
          have HU1 : Hid (Duo W.heap.size w4 d Sd e2 Se) := by have := HU.out; rw [q] at this; exact this
          clear q HU
          go_wp2
          go_roundw
          case rel => exact ⟨j + 1, dn, by omega, by omega, rfl, by simp, ⟨_, _, HU1.out, HC.out, HF.out.1.more (by omega), HF.out.2.more (by omega)⟩, HN.out⟩
          case measure => simp [intOf]; omega
      · obtain rfl : j = len := by omega
        obtain ⟨Sd, Se, hU0, hI0, hF0, hG0⟩ := HI.out
        have HU : Hid (Duo W.heap.size wr d Sd e2 Se) := hU0
        have HC : Hid (CutInv n Sd Se dn) := hI0
        clear hU0 hI0 hF0 hG0 HI HI3 HN3
        go_wp2_with fail
        refine (dup W.heap.size d e2 Sd Se wr HU.out HN.out.size).mono ?_
        rintro e w4 ⟨rfl, hU4, hb4⟩
        have HU4 : Hid (Duo W.heap.size w4 d Sd.up e2 Se) := hU4
        have HN4 : Hid (Below W.heap.size W w4) := HN.out.trans hb4
        clear hU4 hb4 HU HN
        go_wp2
        go_loopw [12] (fun v12 wq => ∃ (i : Nat), i ≤ j ∧ v12 = .int .i64 (i : Int) ∧ Hid (Duo W.heap.size wq d Sd.up e2 Se) ∧ Hid (Below W.heap.size W wq)) (fun v12 _ => j - (intOf v12).toNat)
        case atStart => exact ⟨0, Nat.zero_le _, rfl, HU4.out, HN4.out⟩
        case round =>
          obtain ⟨i, hi, rfl, HU, HN⟩ := hrel
          by_cases hlti : i < j
          · have hlti' : (i : Int) < j := by omega
            have hil : i < l.length := by rw [Hl.out]; exact hlti
            obtain ⟨b, off, rfl, hO⟩ := HOps.out i hil
            generalize l[i] = o at hO
            obtain ⟨ok, ⟨f1, f2, f3⟩, oi, oa, on, oc, ob⟩ := o
            have HO : Hid (OpAt W b off i ⟨ok, (f1, f2, f3), oi, oa, on, oc, ob⟩) := hO
            have Hf : Hid (I64F (f1, f2, f3)) := ⟨hO.bd.2.1, hO.bd.2.2.1, hO.bd.2.2.2⟩
            have Hi : Hid (I64 oi) := hO.bd.1
            obtain ⟨R1, R2, hRR⟩ : ∃ R1 R2, Se.read (f1, f2, f3) oi = (R1, R2) := ⟨_, _, rfl⟩
            have HR1 : Hid (Sd.up.read (f1, f2, f3) oi = (R1, R2)) := by show _ = _; rw [HC.out.reads, hRR]
            have HR2 : Hid (Se.read (f1, f2, f3) oi = (R1, R2)) := hRR
            obtain ⟨n1, hn1'⟩ : ∃ n1, n1 = R2.length := ⟨_, rfl⟩
            have Hn1 : Hid (n1 = R2.length) := hn1'
            clear hO hil hRR hn1'
            go_wp2
            refine region_L (fun w' => Below W.heap.size W w') 16 (by kernel_rfl) ?_
            have HUa : Hid (Duo W.heap.size wr.drew d Sd.up e2 Se) := HU.out.drew
            have HNa : Hid (Below W.heap.size W wr.drew) := HN.out.drew
            clear HN
            generalize wr.drew = va at *
            have hHeld : (fun w' => Below W.heap.size W w') _ := HNa.out
            have hne : Nonempty (Sub (fun w' => Below W.heap.size W w')) := ⟨⟨_, hHeld⟩⟩
            have k1 : ∀ s : Sub (fun w' => Below W.heap.size W w'), s.w.cell? ⟨b, off + i * 6 + 1, none⟩ = some (.int .i64 f1) := fun s => (HO.out.on s.ok).c1
            have k2 : ∀ s : Sub (fun w' => Below W.heap.size W w'), s.w.cell? ⟨b, off + i * 6 + 2, none⟩ = some (.int .i64 f2) := fun s => (HO.out.on s.ok).c2
            have k3 : ∀ s : Sub (fun w' => Below W.heap.size W w'), s.w.cell? ⟨b, off + i * 6 + 3, none⟩ = some (.int .i64 f3) := fun s => (HO.out.on s.ok).c3
            have k4 : ∀ s : Sub (fun w' => Below W.heap.size W w'), s.w.cell? ⟨b, off + i * 6 + 4, none⟩ = some (.int .i64 oi) := fun s => (HO.out.on s.ok).c4
            refine take_L (i := 0) rfl (by kernel_rfl) (by kernel_rfl) (by kernel_rfl) (by kernel_rfl) (fun _ _ _ _ h => h) (by exact hHeld) (fun K hK => ?_)
            go_simp
            refine hK _ ?_
            clear hK K
            refine take_L (i := 1) rfl (by kernel_rfl) (by kernel_rfl) (by kernel_rfl) (by kernel_rfl) (fun _ _ _ _ h => h) (by exact hHeld) (fun K hK => ?_)
            go_simp
            refine hK _ ?_
            clear hK K
            refine take_L (i := 2) rfl (by kernel_rfl) (by kernel_rfl) (by kernel_rfl) (by kernel_rfl) (fun _ _ _ _ h => h) (by exact hHeld) (fun K hK => ?_)
            go_simp
            refine hK _ ?_
            clear hK K
            refine take_L (i := 3) rfl (by kernel_rfl) (by kernel_rfl) (by kernel_rfl) (by kernel_rfl) (fun _ _ _ _ h => h) (by exact hHeld) (fun K hK => ?_)
            go_simp
            refine hK _ ?_
            clear hK K
            refine take_L (i := 4) rfl (by kernel_rfl) (by kernel_rfl) (by kernel_rfl) (by kernel_rfl) (fun _ _ _ _ h => h) (by exact hHeld) (fun K hK => ?_)
            go_simp
            refine hK _ ?_
            clear hK K
            refine take_L (i := 5) rfl (by kernel_rfl) (by kernel_rfl) (by kernel_rfl) (by kernel_rfl) (fun _ _ _ _ h => h) (by exact hHeld) (fun K hK => ?_)
            go_simp
            refine hK _ ?_
            clear hK K
            refine take_L (i := 6) rfl (by kernel_rfl) (by kernel_rfl) (by kernel_rfl) (by kernel_rfl) (fun _ _ _ _ h => h) (by exact hHeld) (fun K hK => ?_)
            go_simp
            refine hK _ ?_
            clear hK K
            refine take_L (i := 7) rfl (by kernel_rfl) (by kernel_rfl) (by kernel_rfl) (by kernel_rfl) (fun _ _ _ _ h => h) (by exact hHeld) (fun K hK => ?_)
            go_simp
            refine hK _ ?_
            clear hK K
            refine take_L (i := 8) rfl (by kernel_rfl) (by kernel_rfl) (by kernel_rfl) (by kernel_rfl) (fun _ _ _ _ h => h) (by exact hHeld) (fun K hK => ?_)
            go_simp
            refine hK _ ?_
            clear hK K
            refine take_L (i := 9) rfl (by kernel_rfl) (by kernel_rfl) (by kernel_rfl) (by kernel_rfl) (fun _ _ _ _ h => h) (by exact hHeld) (fun K hK => ?_)
            go_simp
            refine hK _ ?_
            clear hK K
            refine take_L (i := 10) rfl (by kernel_rfl) (by kernel_rfl) (by kernel_rfl) (by kernel_rfl) (fun _ _ _ _ h => h) (by exact hHeld) (fun K hK => ?_)
            go_simp
            refine hK _ ?_
            clear hK K
            refine one_L (i := 11) (by kernel_rfl) rfl (fun K hK => ?_)
            go_simp
            refine (dread W.heap.size d e2 Sd.up Se f1 f2 f3 oi Hf.out Hi.out va HUa.out).mono ?_
            rintro _ w5 ⟨hr, hU⟩
            obtain ⟨a1, c1, rfl, hs1, hb⟩ := read_src hr
            rw [HR1.out] at hs1 ⊢
            simp only at hs1 ⊢
            have HS1 : Hid (Src w5 a1 n1 R2) := Hn1.out ▸ hs1
            rw [← Hn1.out]
            have HU : Hid (Duo W.heap.size w5 d Sd.up e2 Se) := hU
            have HN : Hid (Below W.heap.size W w5) := HNa.out.trans (hb.mono HNa.out.size)
            clear hU hb hr hs1
            replace hHeld : (fun w' => Below W.heap.size W w') _ := HN.out
            refine hK.out _ _ (fun _ => hHeld) ?_
            clear hK K
            refine take_L (i := 12) rfl (by kernel_rfl) (by kernel_rfl) (by kernel_rfl) (by kernel_rfl) (fun _ _ _ _ h => h) (by exact hHeld) (fun K hK => ?_)
            go_simp
            refine hK _ ?_
            clear hK K
            refine take_L (i := 13) rfl (by kernel_rfl) (by kernel_rfl) (by kernel_rfl) (by kernel_rfl) (fun _ _ _ _ h => h) (by exact hHeld) (fun K hK => ?_)
            go_simp
            refine hK _ ?_
            clear hK K
            refine take_L (i := 14) rfl (by kernel_rfl) (by kernel_rfl) (by kernel_rfl) (by kernel_rfl) (fun _ _ _ _ h => h) (by exact hHeld) (fun K hK => ?_)
            go_simp
            refine hK _ ?_
            clear hK K
            refine take_L (i := 15) rfl (by kernel_rfl) (by kernel_rfl) (by kernel_rfl) (by kernel_rfl) (fun _ _ _ _ h => h) (by exact hHeld) (fun K hK => ?_)
            go_simp
            refine hK _ ?_
            clear hK K
            refine one_L (i := 16) (by kernel_rfl) rfl (fun K hK => ?_)
            go_simp
            refine hK.out _ _ (fun h => absurd rfl h) ?_
            clear hK K
            refine done_L (by kernel_rfl) ?_ _
            clear hHeld hne k1 k2 k3 k4 HUa HNa
            go_wp2
            refine region_L (fun w' => Below W.heap.size W w') 16 (by kernel_rfl) ?_
            have HUa : Hid (Duo W.heap.size w5.drew e2 Se d Sd.up) := HU.out.swap.drew
            have HNa : Hid (Below W.heap.size W w5.drew) := HN.out.drew
            have HS1a : Hid (Src w5.drew a1 n1 R2) := ⟨HS1.out.len, HS1.out.cells, HS1.out.byte⟩
            clear HS1
            clear HN
            generalize w5.drew = va at *
            have hHeld : (fun w' => Below W.heap.size W w') _ := HNa.out
            have hne : Nonempty (Sub (fun w' => Below W.heap.size W w')) := ⟨⟨_, hHeld⟩⟩
            have k1 : ∀ s : Sub (fun w' => Below W.heap.size W w'), s.w.cell? ⟨b, off + i * 6 + 1, none⟩ = some (.int .i64 f1) := fun s => (HO.out.on s.ok).c1
            have k2 : ∀ s : Sub (fun w' => Below W.heap.size W w'), s.w.cell? ⟨b, off + i * 6 + 2, none⟩ = some (.int .i64 f2) := fun s => (HO.out.on s.ok).c2
            have k3 : ∀ s : Sub (fun w' => Below W.heap.size W w'), s.w.cell? ⟨b, off + i * 6 + 3, none⟩ = some (.int .i64 f3) := fun s => (HO.out.on s.ok).c3
            have k4 : ∀ s : Sub (fun w' => Below W.heap.size W w'), s.w.cell? ⟨b, off + i * 6 + 4, none⟩ = some (.int .i64 oi) := fun s => (HO.out.on s.ok).c4
            refine take_L (i := 0) rfl (by kernel_rfl) (by kernel_rfl) (by kernel_rfl) (by kernel_rfl) (fun _ _ _ _ h => h) (by exact hHeld) (fun K hK => ?_)
            go_simp
            refine hK _ ?_
            clear hK K
            refine take_L (i := 1) rfl (by kernel_rfl) (by kernel_rfl) (by kernel_rfl) (by kernel_rfl) (fun _ _ _ _ h => h) (by exact hHeld) (fun K hK => ?_)
            go_simp
            refine hK _ ?_
            clear hK K
            refine take_L (i := 2) rfl (by kernel_rfl) (by kernel_rfl) (by kernel_rfl) (by kernel_rfl) (fun _ _ _ _ h => h) (by exact hHeld) (fun K hK => ?_)
            go_simp
            refine hK _ ?_
            clear hK K
            refine take_L (i := 3) rfl (by kernel_rfl) (by kernel_rfl) (by kernel_rfl) (by kernel_rfl) (fun _ _ _ _ h => h) (by exact hHeld) (fun K hK => ?_)
            go_simp
            refine hK _ ?_
            clear hK K
            refine take_L (i := 4) rfl (by kernel_rfl) (by kernel_rfl) (by kernel_rfl) (by kernel_rfl) (fun _ _ _ _ h => h) (by exact hHeld) (fun K hK => ?_)
            go_simp
            refine hK _ ?_
            clear hK K
            refine take_L (i := 5) rfl (by kernel_rfl) (by kernel_rfl) (by kernel_rfl) (by kernel_rfl) (fun _ _ _ _ h => h) (by exact hHeld) (fun K hK => ?_)
            go_simp
            refine hK _ ?_
            clear hK K
            refine take_L (i := 6) rfl (by kernel_rfl) (by kernel_rfl) (by kernel_rfl) (by kernel_rfl) (fun _ _ _ _ h => h) (by exact hHeld) (fun K hK => ?_)
            go_simp
            refine hK _ ?_
            clear hK K
            refine take_L (i := 7) rfl (by kernel_rfl) (by kernel_rfl) (by kernel_rfl) (by kernel_rfl) (fun _ _ _ _ h => h) (by exact hHeld) (fun K hK => ?_)
            go_simp
            refine hK _ ?_
            clear hK K
            refine take_L (i := 8) rfl (by kernel_rfl) (by kernel_rfl) (by kernel_rfl) (by kernel_rfl) (fun _ _ _ _ h => h) (by exact hHeld) (fun K hK => ?_)
            go_simp
            refine hK _ ?_
            clear hK K
            refine take_L (i := 9) rfl (by kernel_rfl) (by kernel_rfl) (by kernel_rfl) (by kernel_rfl) (fun _ _ _ _ h => h) (by exact hHeld) (fun K hK => ?_)
            go_simp
            refine hK _ ?_
            clear hK K
            refine take_L (i := 10) rfl (by kernel_rfl) (by kernel_rfl) (by kernel_rfl) (by kernel_rfl) (fun _ _ _ _ h => h) (by exact hHeld) (fun K hK => ?_)
            go_simp
            refine hK _ ?_
            clear hK K
            refine one_L (i := 11) (by kernel_rfl) rfl (fun K hK => ?_)
            go_simp
            refine (dread W.heap.size e2 d Se Sd.up f1 f2 f3 oi Hf.out Hi.out va HUa.out).mono ?_
            rintro _ w6 ⟨hr, hU⟩
            obtain ⟨a2, c2, rfl, hs2, hb⟩ := read_src hr
            rw [HR2.out] at hs2 ⊢
            simp only at hs2 ⊢
            have HS2 : Hid (Src w6 a2 n1 R2) := Hn1.out ▸ hs2
            rw [← Hn1.out]
            have HU : Hid (Duo W.heap.size w6 e2 Se d Sd.up) := hU
            have HN : Hid (Below W.heap.size W w6) := HNa.out.trans (hb.mono HNa.out.size)
            have HS1 : Hid (Src w6 a1 n1 R2) := HS1a.out.later hb
            clear HS1a
            clear hU hb hr hs2
            replace hHeld : (fun w' => Below W.heap.size W w') _ := HN.out
            refine hK.out _ _ (fun _ => hHeld) ?_
            clear hK K
            refine take_L (i := 12) rfl (by kernel_rfl) (by kernel_rfl) (by kernel_rfl) (by kernel_rfl) (fun _ _ _ _ h => h) (by exact hHeld) (fun K hK => ?_)
            go_simp
            refine hK _ ?_
            clear hK K
            refine take_L (i := 13) rfl (by kernel_rfl) (by kernel_rfl) (by kernel_rfl) (by kernel_rfl) (fun _ _ _ _ h => h) (by exact hHeld) (fun K hK => ?_)
            go_simp
            refine hK _ ?_
            clear hK K
            refine take_L (i := 14) rfl (by kernel_rfl) (by kernel_rfl) (by kernel_rfl) (by kernel_rfl) (fun _ _ _ _ h => h) (by exact hHeld) (fun K hK => ?_)
            go_simp
            refine hK _ ?_
            clear hK K
            refine take_L (i := 15) rfl (by kernel_rfl) (by kernel_rfl) (by kernel_rfl) (by kernel_rfl) (fun _ _ _ _ h => h) (by exact hHeld) (fun K hK => ?_)
            go_simp
            refine hK _ ?_
            clear hK K
            refine one_L (i := 16) (by kernel_rfl) rfl (fun K hK => ?_)
            go_simp
            refine hK.out _ _ (fun h => absurd rfl h) ?_
            clear hK K
            refine done_L (by kernel_rfl) ?_ _
            clear hHeld hne k1 k2 k3 k4 HUa HNa
            have hc1 : (convert 31 9 (.slice a1 n1 c1)).run Try.prog w6 = .ok (.string (strOfNums R2)) w6 := conv_c HS1.out
            have hc2 : (convert 31 9 (.slice a2 n1 c2)).run Try.prog w6 = .ok (.string (strOfNums R2)) w6 := conv_c HS2.out
            generalize strOfNums R2 = st at hc1 hc2
            have HU6 : Hid (Duo W.heap.size w6 d Sd.up e2 Se) := HU.out.swap
            clear HU HS1 HS2
            go_wp2
            go_roundw
            case rel => exact ⟨i + 1, by omega, by simp, HU6.out, HN.out⟩
            case measure => simp [intOf]; omega
          · obtain rfl : i = j := by omega
            have hw : Sd.up.writes = (dn : Int) := HC.out.writes
            go_wp2_with fail
            refine (dwrites W.heap.size d e2 Sd.up Se wr HU.out).mono ?_
            rintro e w5 ⟨rfl, hw5⟩
            replace hw5 := hw5.symm
            subst hw5
            rw [hw]
            have R := HP.out wr HN.out
            clear HP HU HN
            go_wp2
            exact R
end Go.Proofs.Ytfpcfgfpebdplaa
