/-
  The document's automaton, once.
-/
import Derived.Test.YtajjaeaknonmfaaVround
set_option maxRecDepth 20000
namespace Go.Proofs.Ytajjaeaknonmfaa
open C Go.RowKit

set_option maxRecDepth 100000 in
set_option maxHeartbeats 2000000 in
theorem rround_c (b cp ob oc : Nat) (g c : Nat → Nat) (css : List (List Int)) (f : Fld) (F : Nat) (hF : F ≤ 1) (w : World) (hN : B9 w b g c css) (hO : BBlk w ob (arrF f)) :
    Calls Try.prog 35 #[.slice (some ⟨b, 0, none⟩) 9 cp, .slice (some ⟨ob, 0, none⟩) 11200 oc, .int .i64 (F : Int)] w fun e w' => e = .returned (.slice (some ⟨w.heap.size, 0, none⟩) 11200 11200) ∧ BBlk w' w.heap.size (arrF (nearF F (stepF (fitN css) f))) ∧ Below w.heap.size w w' := by
  obtain ⟨Post, hPost⟩ : ∃ Post : Ending → World → Prop, Post = fun e w' => e = .returned (.slice (some ⟨w.heap.size, 0, none⟩) 11200 11200) ∧ BBlk w' w.heap.size (arrF (nearF F (stepF (fitN css) f))) ∧ Below w.heap.size w w' := ⟨_, rfl⟩
  rw [← hPost]
  have HP : Hid (∀ w', BBlk w' w.heap.size (arrF (nearF F (stepF (fitN css) f))) → Below w.heap.size w w' → Post (.returned (.slice (some ⟨w.heap.size, 0, none⟩) 11200 11200)) w') := fun w' h1 h2 => by rw [hPost]; exact ⟨rfl, h1, h2⟩
  clear hPost
  have hmk := make_bools
  have HT0 : Hid (Told (nearF F (stepF (fitN css) f)) (plN (-F) 6 (-F)) (List.replicate 11200 false)) := near_start (by omega) (by omega)
  obtain ⟨Z, hZe⟩ : ∃ Z, Z = List.replicate 11200 false := ⟨_, rfl⟩
  rw [← hZe] at hmk HT0
  clear hZe
  have HZ : Hid (BBlk (w.alloc (.cells (Z.map Value.bool).toArray 4)) w.heap.size Z ∧ Below w.heap.size w (w.alloc (.cells (Z.map Value.bool).toArray 4))) := ⟨heap_alloc_new w _, (Below.refl _ w).alloc (Nat.le_refl _) _⟩
  have HN : Hid (B9 w b g c css) := hN
  have HO : Hid (BBlk w ob (arrF f)) := hO
  clear hN hO
  have hF0 : (0 : Int) ≤ (F : Int) := by omega
  have hF1 : (F : Int) ≤ 1 := by omega
  go_enter Try.func35, Try.ntmps35
  go_wp2
  go_loopw [8] (fun v wr => ∃ y : Int, v = .int .i64 y ∧ 6 ≤ y ∧ y ≤ 30 ∧ Hid (∃ zs, BBlk wr w.heap.size zs ∧ Told (nearF F (stepF (fitN css) f)) (plN (-F) y (-F)) zs ∧ Below w.heap.size w wr)) (fun v _ => (30 - intOf v).toNat)
  case atStart => exact ⟨6, rfl, by omega, by omega, Z, HZ.out.1, HT0.out, HZ.out.2⟩
  case round =>
    clear HZ HT0 hmk
    obtain ⟨y, rfl, hy0, hy1, HY⟩ := hrel
    by_cases hy : y ≤ 29
    case neg =>
      have R : Post (.returned (.slice (some ⟨w.heap.size, 0, none⟩) 11200 11200)) wr := by
        obtain ⟨zs, h1, h2, h3⟩ := HY.out
        obtain rfl : y = 30 := by omega
        rw [near_done (by omega) (by omega) h2] at h1
        exact HP.out wr h1 h3
      clear HP HY
      go_wp2
      exact R
    go_wp2
    go_loopw [9] (fun v wr => ∃ z : Int, v = .int .i64 z ∧ -(F : Int) ≤ z ∧ z ≤ 16 + F ∧ Hid (∃ zs, BBlk wr w.heap.size zs ∧ Told (nearF F (stepF (fitN css) f)) (plN (-F) y z) zs ∧ Below w.heap.size w wr)) (fun v _ => (16 + F - intOf v).toNat)
    case atStart => exact ⟨-F, rfl, by omega, by omega, HY⟩
    case round =>
      clear HY
      obtain ⟨z, rfl, hz0, hz1, HY⟩ := hrel
      by_cases hz : z < 16 + F
      case neg =>
        have HY2 : Hid (∃ zs, BBlk wr w.heap.size zs ∧ Told (nearF F (stepF (fitN css) f)) (plN (-F) (y + 1) (-F)) zs ∧ Below w.heap.size w wr) := by
          obtain ⟨zs, h1, h2, h3⟩ := HY.out
          obtain rfl : z = 16 + F := by omega
          exact ⟨zs, h1, near_nexty (by omega) (by omega) h2, h3⟩
        clear HY
        go_wp2
        exact ⟨⟨y + 1, rfl, by omega, by omega, HY2⟩, by simp [intOf]; omega⟩
      go_wp2
      go_loopw [10] (fun v wr => ∃ x : Int, v = .int .i64 x ∧ -(F : Int) ≤ x ∧ x ≤ 16 + F ∧ Hid (∃ zs, BBlk wr w.heap.size zs ∧ Told (nearF F (stepF (fitN css) f)) (plN x y z) zs ∧ Below w.heap.size w wr)) (fun v _ => (16 + F - intOf v).toNat)
      case atStart => exact ⟨-F, rfl, by omega, by omega, HY⟩
      case round =>
        clear HY
        obtain ⟨x, rfl, hx0, hx1, HY⟩ := hrel
        by_cases hx : x < 16 + F
        case neg =>
          have HY2 : Hid (∃ zs, BBlk wr w.heap.size zs ∧ Told (nearF F (stepF (fitN css) f)) (plN (-F) y (z + 1)) zs ∧ Below w.heap.size w wr) := by
            obtain ⟨zs, h1, h2, h3⟩ := HY.out
            obtain rfl : x = 16 + F := by omega
            exact ⟨zs, h1, near_nextz (by omega) (by omega) h2, h3⟩
          clear HY
          go_wp2
          exact ⟨⟨z + 1, rfl, by omega, by omega, HY2⟩, by simp [intOf]; omega⟩
        obtain ⟨zs, h1, h2, h3⟩ := HY.out
        have hfit := rfit_c b cp g c css x y z wr (HN.out.on h3) (by omega) (by omega)
        have HO1 : Hid (BBlk wr ob (arrF f)) := HO.out.on h3
        have HG : Hid (nearF F (stepF (fitN css) f) x y z = (fitN css x y z && decide (13 ≤ nbN f x y z 27))) := nearF_in (by omega)
        have H1 : Hid (BBlk wr w.heap.size zs) := h1
        have H2 : Hid (Told (nearF F (stepF (fitN css) f)) (plN x y z) zs) := h2
        have H3 : Hid (Below w.heap.size w wr) := h3
        clear h1 h2 h3 HY
        generalize fitN css x y z = ft at hfit HG
        go_wp2_with fail
        refine hfit.mono ?_
        clear hfit
        rintro _ w' ⟨rfl, hw⟩
        replace hw := hw.symm
        subst hw
        cases ft with
        | false =>
          have HY2 : Hid (∃ zs, BBlk wr w.heap.size zs ∧ Told (nearF F (stepF (fitN css) f)) (plN (x + 1) y z) zs ∧ Below w.heap.size w wr) := ⟨zs, H1.out, H2.out.skip (by omega) (by omega) (by omega) (by rw [HG.out]; rfl), H3.out⟩
          clear H1 H2 H3 HG HO1
          go_wp2
          exact ⟨⟨x + 1, rfl, by omega, by omega, HY2⟩, by simp [intOf]; omega⟩
        | true =>
          rw [Bool.true_and] at HG
          go_wp2
          go_loop [12, 13] (fun vn vi => ∃ i : Nat, vi = .int .i64 (i : Int) ∧ vn = .int .i64 ((nbN f x y z i : Nat) : Int) ∧ i ≤ 27) (fun _ vi => 27 - (intOf vi).toNat)
          case atStart => exact ⟨0, rfl, rfl, by omega⟩
          case round =>
            obtain ⟨i, rfl, rfl, hi⟩ := hrel
            by_cases hlt : i < 27
            case neg =>
              have hge : ¬ (i : Int) < 27 := by omega
              obtain rfl : i = 27 := by omega
              obtain ⟨P, hP, hPl, _⟩ := pl_nat x y z (by omega) (by omega) (by omega)
              have hpl := rplace_c x y z wr (by omega) (by omega) (by omega)
              have hlen := H2.out.1
              have c0 := H1.out.cell (k := P) (by omega)
              have c1 := H1.out.free P
              have hPi : (P : Int) < 11200 := by omega
              have HY2 : Hid (∃ zs, BBlk (wr.setCell ⟨w.heap.size, P, none⟩ (.bool (decide (13 ≤ nbN f x y z 27)))) w.heap.size zs ∧ Told (nearF F (stepF (fitN css) f)) (plN (x + 1) y z) zs ∧ Below w.heap.size w (wr.setCell ⟨w.heap.size, P, none⟩ (.bool (decide (13 ≤ nbN f x y z 27))))) := by
                refine ⟨zs.set P (decide (13 ≤ nbN f x y z 27)), H1.out.set P _, ?_, H3.out.setCell (p := ⟨w.heap.size, P, none⟩) (Nat.le_refl _) _⟩
                rw [← HG.out]
                exact H2.out.put (by omega) (by omega) (by omega) P hP
              rw [hP] at hpl
              clear hP H1 H2 H3 HG HO1 hlen
              have hnb := nbN_le f x y z 27
              generalize nbN f x y z 27 = nb at *
              have hdd : decide (13 ≤ (nb : Int)) = decide (13 ≤ nb) := by simp; omega
              go_wp2_with fail
              refine hpl.mono ?_
              clear hpl
              rintro _ w' ⟨rfl, hw⟩
              replace hw := hw.symm
              subst hw
              go_wp2
              exact ⟨⟨x + 1, rfl, by omega, by omega, HY2⟩, by simp [intOf]; omega⟩
            have hlt' : (i : Int) < 27 := by omega
            by_cases h13 : i = 13
            · subst h13
              have e : nbN f x y z 14 = nbN f x y z 13 := by rw [nbN]; simp
              generalize nbN f x y z 13 = nb at *
              go_wp2
              exact ⟨⟨14, rfl, by rw [e], by omega⟩, by simp [intOf]⟩
            have h13' : ((i : Int) == 13) = false := by simp; omega
            have t1 : Int.tmod (i : Int) 3 = ((i % 3 : Nat) : Int) := by rw [Int.tmod_eq_emod_of_nonneg (by omega)]; omega
            have t2 : Int.tdiv (i : Int) 9 = ((i / 9 : Nat) : Int) := by rw [Int.tdiv_eq_ediv_of_nonneg (by omega)]; omega
            have t3 : Int.tdiv (i : Int) 3 = ((i / 3 : Nat) : Int) := by rw [Int.tdiv_eq_ediv_of_nonneg (by omega)]; omega
            have t4 : Int.tmod ((i / 3 : Nat) : Int) 3 = ((i / 3 % 3 : Nat) : Int) := by rw [Int.tmod_eq_emod_of_nonneg (by omega)]; omega
            have hnb := nbN_le f x y z i
            obtain ⟨P, hP, hPl, hf⟩ := arrF_pl f (x + ((i % 3 : Nat) : Int) - 1) (y + ((i / 9 : Nat) : Int) - 1) (z + ((i / 3 % 3 : Nat) : Int) - 1) (by omega) (by omega) (by omega)
            have hpl := rplace_c (x + ((i % 3 : Nat) : Int) - 1) (y + ((i / 9 : Nat) : Int) - 1) (z + ((i / 3 % 3 : Nat) : Int) - 1) wr (by omega) (by omega) (by omega)
            have c0 := HO1.out.cell (k := P) (by rw [arrF_len]; exact hPl)
            have hPi : (P : Int) < 11200 := by omega
            have Hnb : Hid (nbN f x y z (i + 1) = nbN f x y z i + if f (x + ((i % 3 : Nat) : Int) - 1) (y + ((i / 9 : Nat) : Int) - 1) (z + ((i / 3 % 3 : Nat) : Int) - 1) = true then 1 else 0) := by
              show _ = _
              rw [nbN]
              congr 1
              simp only [Int.natCast_emod, Int.natCast_ediv]
              simp [h13]
            rw [hf] at c0
            rw [hP] at hpl
            have r1 : i % 3 < 3 := by omega
            have r2 : i / 9 < 3 := by omega
            have r3 : i / 3 < 9 := by omega
            have r4 : i / 3 % 3 < 3 := by omega
            clear hf hP
            generalize i / 3 % 3 = QR at *
            generalize i / 3 = Q3 at *
            generalize i / 9 = Q9 at *
            generalize i % 3 = R3 at *
            generalize f (x + (R3 : Int) - 1) (y + (Q9 : Int) - 1) (z + (QR : Int) - 1) = fb at *
            go_wp2_with fail
            refine hpl.mono ?_
            clear hpl
            rintro _ w' ⟨rfl, hw⟩
            replace hw := hw.symm
            subst hw
            cases fb with
            | false =>
              have e : nbN f x y z (i + 1) = nbN f x y z i := by rw [Hnb.out]; rfl
              clear Hnb
              generalize nbN f x y z i = nb at *
              go_wp2
              exact ⟨⟨i + 1, by simp, by rw [e], by omega⟩, by simp [intOf]; omega⟩
            | true =>
              have e : nbN f x y z (i + 1) = nbN f x y z i + 1 := by rw [Hnb.out]; rfl
              clear Hnb
              generalize nbN f x y z i = nb at *
              go_wp2
              exact ⟨⟨i + 1, by simp, by rw [e]; simp, by omega⟩, by simp [intOf]; omega⟩
end Go.Proofs.Ytajjaeaknonmfaa