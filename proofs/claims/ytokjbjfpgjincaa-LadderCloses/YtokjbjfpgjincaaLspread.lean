/-
  The document's spread: how far away stages are needed.
-/
import Derived.Test.YtokjbjfpgjincaaLform
set_option maxRecDepth 20000
namespace Go.Proofs.Ytokjbjfpgjincaa
open Go.RowKit

/-- Behind some rounds: those from m on are done. -/
structure Sp12 (w : World) (l : Lad) (k n g m : Nat) (r : List Int) (wr : World) : Prop where
  row : IRow wr g r
  len : r.length = n
  eq : downR l m r = spreadL l k
  le : ∀ j, gt r j ≤ 8 * ((k : Int) + 1 - (m : Int))
  bel : Below w.heap.size w wr
theorem gt_len {r : List Int} {i : Nat} (h : 0 ≤ gt r i) : i < r.length := by
  refine Nat.lt_of_not_le (fun hge => ?_)
  unfold gt at h
  rw [List.getD_eq_getElem?_getD, List.getElem?_eq_none hge] at h
  simp at h
set_option maxHeartbeats 2000000 in
theorem rspread_c (a : Option Addr) (n c : Nat) (L : List Rn) (k : Nat) (w : World) (hR : RgAt w a L) (hn : L.length = n) (hF : Formed (lad L)) (hk : k < n) :
    Calls Try.prog 26 #[.slice a n c, .int .i64 (k : Int)] w fun e w' => e = .returned (.slice (some ⟨w.heap.size, 0, none⟩) n n) ∧ IRow w' w.heap.size (spreadL (lad L) k) ∧ Below w.heap.size w w' := by
  obtain ⟨Post, hPost⟩ : ∃ Post : Ending → World → Prop, Post = fun e w' => e = .returned (.slice (some ⟨w.heap.size, 0, none⟩) n n) ∧ IRow w' w.heap.size (spreadL (lad L) k) ∧ Below w.heap.size w w' := ⟨_, rfl⟩
  rw [← hPost]
  have HP : Hid (∀ w', IRow w' w.heap.size (spreadL (lad L) k) → Below w.heap.size w w' → Post (.returned (.slice (some ⟨w.heap.size, 0, none⟩) n n)) w') := fun w' h1 h2 => by rw [hPost]; exact ⟨rfl, h1, h2⟩
  clear hPost
  have HR : Hid (RgAt w a L) := hR
  have Hn : Hid (L.length = n) := hn
  have HF : Hid (Formed (lad L)) := hF
  have hn16 : n ≤ 16 := by have := hF.n; rw [lad_len, hn] at this; exact this
  have hk' : (k : Int) < (n : Int) := by omega
  clear hR hn hF
  go_enter Try.func26, Try.ntmps26
  go_wp2_with (at_make; refine wpList_make_ints w rfl _ _ rfl (n : Int) n rfl rfl rfl (by omega) ?_; intro w1 HR1 hb1)
  have Hb1 : Hid (Below w.heap.size w w1) := hb1
  clear hb1
  go_loopw [6] (fun v wr => ∃ (j : Nat), j ≤ n ∧ v = .int .i64 (j : Int) ∧ Hid (IRow wr w.heap.size (List.replicate j (-1) ++ List.replicate (n - j) 0)) ∧ Hid (Below w.heap.size w wr)) (fun v _ => n - (intOf v).toNat)
  case atStart => exact ⟨0, Nat.zero_le _, by go_num, (show IRow _ _ _ by simpa using HR1.out), Hb1⟩
  case round =>
    clear HR1 Hb1
    obtain ⟨j, hj, rfl, HI, HBe⟩ := hrel
    by_cases hlt : j < n
    · have hlt' : (j : Int) < (n : Int) := by omega
      have q0 := HI.out.at (i := j) (by simp; omega)
      have f0 := HI.out.free j
      have HI2 : Hid (IRow (wr.setCell ⟨w.heap.size, j, none⟩ (.int .i64 (-1))) w.heap.size (List.replicate (j + 1) (-1) ++ List.replicate (n - (j + 1)) 0)) := by
        have := HI.out.set j (-1)
        have e : (List.replicate j (-1 : Int) ++ List.replicate (n - j) 0).set j (-1) = List.replicate (j + 1) (-1) ++ List.replicate (n - (j + 1)) 0 := by
          rw [List.set_append_right _ _ (by simp), List.length_replicate, Nat.sub_self, show n - j = (n - (j + 1)) + 1 by omega, List.replicate_succ, List.set_cons_zero, List.replicate_succ', List.append_assoc]
          rfl
        rw [e] at this
        exact this
      have HB2 : Hid (Below w.heap.size w (wr.setCell ⟨w.heap.size, j, none⟩ (.int .i64 (-1)))) := HBe.out.setCell (p := ⟨w.heap.size, j, none⟩) (Nat.le_refl _) _
      generalize (List.replicate j (-1 : Int) ++ List.replicate (n - j) 0).getD j (-1) = o0 at q0
      clear HP HI HBe
      go_wp2
      go_roundw
      case rel => exact ⟨j + 1, by omega, by go_num, HI2, HB2⟩
      case measure => simp [intOf]; omega
    · obtain rfl : j = n := by omega
      have hge : ¬ (j : Int) < (j : Int) := by omega
      have hI := HI.out
      rw [Nat.sub_self, List.replicate_zero, List.append_nil] at hI
      have q0 := hI.at (i := k) (by simp; omega)
      have f0 := hI.free k
      have HS0 : Hid (Sp12 w (lad L) k j w.heap.size (k + 1) (startR j k) (wr.setCell ⟨w.heap.size, k, none⟩ (.int .i64 0))) := by
        refine ⟨hI.set k 0, by unfold startR; simp, ?_, fun i => ?_, HBe.out.setCell (p := ⟨w.heap.size, k, none⟩) (Nat.le_refl _) _⟩
        · unfold spreadL
          rw [lad_len, Hn.out]
        · have hd := (Dn.start (l := lad L) (k := k) (by rw [lad_len, Hn.out]; exact hk))
          rw [lad_len, Hn.out] at hd
          unfold startR
          rw [gt_set]
          split
          · omega
          · unfold gt
            rw [List.getD_eq_getElem?_getD, List.getElem?_replicate]
            split <;> simp <;> omega
      generalize (List.replicate j (-1 : Int)).getD k (-1) = o0 at q0
      clear HI HBe hI
      go_wp2
      generalize wr.setCell ⟨w.heap.size, k, none⟩ (.int .i64 0) = w2 at HS0 ⊢
      clear f0 q0
      go_loopw [7] (fun v wr => ∃ (m : Nat) (r : List Int), m ≤ k + 1 ∧ v = .int .i64 ((m : Int) - 1) ∧ Hid (Sp12 w (lad L) k j w.heap.size m r wr)) (fun v _ => (intOf v + 1).toNat)
      case atStart => exact ⟨k + 1, _, Nat.le_refl _, by go_num, HS0⟩
      case round =>
        clear HS0
        obtain ⟨m, r, hm, rfl, HS⟩ := hrel
        cases m with
        | zero =>
          have R := HP.out wr (by have := HS.out.row; have e : r = spreadL (lad L) k := HS.out.eq; rwa [e] at this) HS.out.bel
          have hneg : ¬ (0 : Int) ≤ ((0 : Nat) : Int) - 1 := by omega
          clear HP HS
          go_wp2
          exact R
        | succ i =>
          have hi0 : (0 : Int) ≤ (i : Int) := by omega
          have ei : (((i + 1 : Nat) : Int) - 1) = (i : Int) := by omega
          rw [ei]
          have hij : i < j := by omega
          have hij' : (i : Int) < (j : Int) := by omega
          have hil : i < L.length := by rw [Hn.out]; exact hij
          obtain ⟨b, off, rfl, hin⟩ := (HR.out.on HS.out.bel) i hil
          have Hc0 : Hid (wr.cell? ⟨b, off + i, none⟩ = some (.slice L[i].a L[i].r.length L[i].c)) := hin.c0
          have Hrd : Hid (RdAt wr L[i].a L[i].r) := hin.rd
          have Hat : Hid ((lad L).getD i [] = L[i].r) := lad_at L i hil
          have Hrok : Hid (∀ x ∈ L[i].r, readOk i x) := fun x hx => HF.out.ok i x (by rw [lad_at L i hil]; exact hx)
          clear hin
          generalize L[i].a = ra at *
          generalize L[i].c = rc at *
          generalize L[i].r = rs at *
          obtain ⟨mr, hmr⟩ : ∃ mr, mr = rs.length := ⟨_, rfl⟩
          rw [← hmr] at Hc0
          have Hm : Hid (mr = rs.length) := hmr
          have hmr16 : mr ≤ 16 := by
            have := HF.out.m ((lad L).getD i []) (getD_mem (by rw [lad_len]; exact hil))
            rw [Hat.out] at this
            omega
          clear hmr
          have q0 := HS.out.row.at (i := i) (by rw [HS.out.len]; exact hij)
          obtain ⟨V, hV⟩ : ∃ V, V = gt r i := ⟨_, rfl⟩
          have HV : Hid (V = gt r i) := hV
          have q1 : wr.cell? ⟨w.heap.size, i, none⟩ = some (.int .i64 V) := by rw [hV]; exact q0
          have hVle : V ≤ 8 * ((k : Int) + 1 - ((i + 1 : Nat) : Int)) := by rw [hV]; exact HS.out.le i
          clear hV q0 HP
          by_cases hV0 : 0 ≤ V
          · have HX0 : Hid (IRow wr w.heap.size r ∧ r.length = j ∧ gt r i = V ∧ rs.foldl (stepR V) r = rowR (lad L) i r ∧ ∀ t, gt r t ≤ 8 * ((k : Int) + 1 - (i : Int))) := ⟨HS.out.row, HS.out.len, HV.out.symm, by unfold rowR; rw [← HV.out, if_pos hV0, Hat.out], fun t => by have := HS.out.le t; omega⟩
            have Hfin : Hid (∀ r', r' = rowR (lad L) i r → downR (lad L) i r' = spreadL (lad L) k) := fun r' e => by rw [e]; exact HS.out.eq
            have Hbw : Hid (Below w.heap.size w wr) := HS.out.bel
            clear HS
            have c0 := Hc0.out
            go_wp2
            clear c0 q1
            obtain ⟨wq, hwq⟩ : ∃ wq, wq = wr := ⟨_, rfl⟩
            subst hwq
            go_loopw [8] (fun v wr => ∃ (t : Nat) (rt : List Int), t ≤ mr ∧ v = .int .i64 (t : Int) ∧ Hid (IRow wr w.heap.size rt ∧ rt.length = j ∧ gt rt i = V ∧ (rs.drop t).foldl (stepR V) rt = rowR (lad L) i r ∧ ∀ u, gt rt u ≤ 8 * ((k : Int) + 1 - (i : Int))) ∧ Hid (Below w.heap.size w wr)) (fun v _ => mr - (intOf v).toNat)
            case atStart => exact ⟨0, r, Nat.zero_le _, by go_num, HX0, Hbw⟩
            case round =>
              clear HX0 Hbw Hc0 Hrd
              obtain ⟨t, rt, ht, rfl, HX, HBe⟩ := hrel
              obtain ⟨hrow, hlen, hgi, hfold, hle⟩ := HX.out
              obtain ⟨b', off', e, hin⟩ := (HR.out.on HBe.out) i hil
              cases e
              have c0 := hin.c0
              have Hrd : Hid (RdAt wr L[i].a L[i].r) := hin.rd
              have eR : L[i].r = rs := by have := lad_at L i hil; rw [Hat.out] at this; exact this.symm
              rw [eR] at c0 Hrd
              rw [← Hm.out] at c0
              clear hin
              generalize L[i].a = ra at *
              generalize L[i].c = rc at *
              have q1 : wr.cell? ⟨w.heap.size, i, none⟩ = some (.int .i64 V) := by rw [← hgi]; exact hrow.at (by rw [hlen]; exact hij)
              by_cases htm : t < mr
              · have htm' : (t : Int) < (mr : Int) := by omega
                have htl : t < rs.length := by rw [← Hm.out]; exact htm
                obtain ⟨rb, ro, rfl, hx⟩ := Hrd.out t htl
                have x0 := hx.c0
                have x1 := hx.c1
                obtain ⟨k1, k2, k3, k4⟩ := Hrok.out rs[t] (List.getElem_mem htl)
                have hdr : rs.drop t = rs[t] :: rs.drop (t + 1) := List.drop_eq_getElem_cons htl
                rw [hdr, List.foldl_cons] at hfold
                obtain ⟨⟨s, q⟩, hsq⟩ : ∃ x, rs[t] = x := ⟨_, rfl⟩
                rw [hsq] at x0 x1 k1 k2 k3 k4 hfold
                simp only at x0 x1 k1 k2 k3 k4
                obtain ⟨S, rfl⟩ := Int.eq_ofNat_of_zero_le k1
                have hSi : S < i := by omega
                have hSj : (S : Int) < (j : Int) := by omega
                have q2 := hrow.at (i := S) (by rw [hlen]; omega)
                obtain ⟨U, hU⟩ : ∃ U, U = gt rt S := ⟨_, rfl⟩
                have q3 : wr.cell? ⟨w.heap.size, S, none⟩ = some (.int .i64 U) := by rw [hU]; exact q2
                obtain ⟨VQ, hVQ⟩ : ∃ VQ, VQ = V + q := ⟨_, rfl⟩
                have hVQb : VQ ≤ 1000 ∧ 0 ≤ VQ := by omega
                have hwrap : IntKind.i64.wrap (V + q) = VQ := by rw [IntKind.wrap_i64]; omega
                have hgbl : w.heap.size < wr.heap.size := hrow.lt
                have hstep : stepR V rt ((S : Int), q) = if U < VQ then rt.set S VQ else rt := by
                  unfold stepR
                  simp only [Int.toNat_natCast]
                  rw [← hU, ← hVQ]
                have hb2 : Below wr.heap.size wr (wr.alloc (.cells #[.int .i64 (S : Int), .int .i64 q] 45)) := (Below.refl _ _).alloc (Nat.le_refl _) _
                have hnew := heap_alloc_new wr (.cells #[.int .i64 (S : Int), .int .i64 q] 45)
                have y0 : (wr.alloc (.cells #[.int .i64 (S : Int), .int .i64 q] 45)).cell? ⟨wr.heap.size, 0, none⟩ = some (.int .i64 (S : Int)) := by rw [cell_of_row _ _ _ _ 45 (0, 0) hnew]; rfl
                have y1 : (wr.alloc (.cells #[.int .i64 (S : Int), .int .i64 q] 45)).cell? ⟨wr.heap.size, 1, none⟩ = some (.int .i64 q) := by rw [cell_of_row _ _ _ _ 45 (0, 0) hnew]; rfl
                have z1 := cell_below q1 hb2
                have z3 := cell_below q3 hb2
                have HI3 : Hid (IRow (wr.alloc (.cells #[.int .i64 (S : Int), .int .i64 q] 45)) w.heap.size rt) := hrow.on hb2
                have HB3 : Hid (Below w.heap.size w (wr.alloc (.cells #[.int .i64 (S : Int), .int .i64 q] 45))) := HBe.out.alloc HBe.out.size _
                have HXn : Hid (∀ w', U < VQ → IRow w' w.heap.size (rt.set S VQ) → (IRow w' w.heap.size (rt.set S VQ) ∧ (rt.set S VQ).length = j ∧ gt (rt.set S VQ) i = V ∧ (rs.drop (t + 1)).foldl (stepR V) (rt.set S VQ) = rowR (lad L) i r ∧ ∀ u, gt (rt.set S VQ) u ≤ 8 * ((k : Int) + 1 - (i : Int)))) := fun w' hlt h1 => by
                  refine ⟨h1, by rw [List.length_set]; exact hlen, by rw [gt_set, if_neg (by omega)]; exact hgi, by rw [← hfold, hstep, if_pos hlt], fun u => ?_⟩
                  rw [gt_set]
                  split
                  · omega
                  · exact hle u
                have HXo : Hid (∀ w', ¬ U < VQ → IRow w' w.heap.size rt → (IRow w' w.heap.size rt ∧ rt.length = j ∧ gt rt i = V ∧ (rs.drop (t + 1)).foldl (stepR V) rt = rowR (lad L) i r ∧ ∀ u, gt rt u ≤ 8 * ((k : Int) + 1 - (i : Int)))) := fun w' hlt h1 => ⟨h1, hlen, hgi, by rw [← hfold, hstep, if_neg hlt], hle⟩
                clear hU hVQ hstep hfold hle hgi hlen hrow HX HBe hb2 hnew hdr hsq hx q2 Hfin Hrd
                go_wp2_with fail
                generalize wr.alloc (.cells #[.int .i64 (S : Int), .int .i64 q] 45) = w3 at *
                by_cases hlt : U < VQ
                · have d1 : decide (U < VQ) = true := decide_eq_true hlt
                  go_big_quiet (fail)
                  have z1' : ((w3.drewN nq).drewN 1).cell? ⟨w.heap.size, i, none⟩ = some (.int .i64 V) := z1
                  have z3' : ((w3.drewN nq).drewN 1).cell? ⟨w.heap.size, S, none⟩ = some (.int .i64 U) := z3
                  have y0' : ((w3.drewN nq).drewN 1).cell? ⟨wr.heap.size, 0, none⟩ = some (.int .i64 (S : Int)) := y0
                  have y1' : ((w3.drewN nq).drewN 1).cell? ⟨wr.heap.size, 1, none⟩ = some (.int .i64 q) := y1
                  have f3' : ((w3.drewN nq).drewN 1).frozen? ⟨w.heap.size, S, none⟩ = false := HI3.out.free S
                  have HI4 : Hid (IRow ((w3.drewN nq).drewN 1) w.heap.size rt) := HI3.out
                  have HB4 : Hid (Below w.heap.size w ((w3.drewN nq).drewN 1)) := ⟨HB3.out.os, HB3.out.tape, HB3.out.output, HB3.out.size, HB3.out.block⟩
                  have HI5 : Hid (IRow (((w3.drewN nq).drewN 1).setCell ⟨w.heap.size, S, none⟩ (.int .i64 VQ)) w.heap.size (rt.set S VQ)) := HI4.out.set S VQ
                  have HB5 : Hid (Below w.heap.size w (((w3.drewN nq).drewN 1).setCell ⟨w.heap.size, S, none⟩ (.int .i64 VQ))) := HB4.out.setCell (p := ⟨w.heap.size, S, none⟩) (Nat.le_refl _) _
                  have HX5 : Hid (_ ∧ _) := HXn.out _ hlt HI5.out
                  clear HXn HXo z1 z3 y0 y1 HI3 HB3 HI4 HB4 HI5
                  go_wp2_with fail
                  refine wp_region_tail 11 (by kernel_rfl) (by kernel_rfl) ?_
                  generalize (w3.drewN nq).drewN 1 = w5 at *
                  simp only [List.take_succ_cons, List.take_zero, List.drop_succ_cons, List.drop_zero]
                  repeat still_step
                  refine wpStill_nil ?_
                  go_wp2
                  go_roundw
                  case rel => exact ⟨t + 1, _, by omega, by go_num, HX5, HB5⟩
                  case measure => simp [intOf]; omega
                · have d1 : decide (U < VQ) = false := decide_eq_false hlt
                  go_big_quiet (fail)
                  have HX5 : Hid (_ ∧ _) := HXo.out (w3.drewN nq) (by omega) HI3.out
                  have HB5 : Hid (Below w.heap.size w (w3.drewN nq)) := ⟨HB3.out.os, HB3.out.tape, HB3.out.output, HB3.out.size, HB3.out.block⟩
                  clear HXn HXo HI3 HB3
                  go_wp2
                  go_roundw
                  case rel => exact ⟨t + 1, _, by omega, by go_num, HX5, HB5⟩
                  case measure => simp [intOf]; omega
              · obtain rfl : t = mr := by omega
                have hge2 : ¬ (t : Int) < (t : Int) := by omega
                have hdone : rt = rowR (lad L) i r := by rw [List.drop_of_length_le (by rw [← Hm.out]; exact Nat.le_refl _)] at hfold; exact hfold
                have HS2 : Hid (Sp12 w (lad L) k j w.heap.size i rt wr) := ⟨hrow, hlen, Hfin.out rt hdone, hle, HBe.out⟩
                clear hdone hle hfold hgi hlen hrow HX HBe Hfin Hrd
                go_wp2
                go_roundw
                case rel => exact ⟨i, rt, by omega, by go_num, HS2⟩
                case measure => simp [intOf]
          · have HS2 : Hid (Sp12 w (lad L) k j w.heap.size i r wr) := ⟨HS.out.row, HS.out.len, by have := HS.out.eq; rw [downR] at this; unfold rowR at this; rwa [← HV.out, if_neg hV0] at this, fun t => by have := HS.out.le t; omega, HS.out.bel⟩
            clear HS
            have c0 := Hc0.out
            go_wp2
            obtain ⟨wq, hwq⟩ : ∃ wq, wq = wr := ⟨_, rfl⟩
            subst hwq
            go_loopw [8] (fun v wr => v = .int .i64 0 ∧ wr = wq) (fun _ _ => 0)
            case atStart => exact ⟨by go_num, rfl⟩
            case round =>
              obtain ⟨rfl, rfl⟩ := hrel
              by_cases hm0 : 0 < mr
              · have hm0' : (0 : Int) < (mr : Int) := by omega
                go_wp2
                go_roundw
                case rel => exact ⟨i, r, by omega, by go_num, HS2⟩
                case measure => simp [intOf]
              · have hm0' : ¬ (0 : Int) < (mr : Int) := by omega
                go_wp2
                go_roundw
                case rel => exact ⟨i, r, by omega, by go_num, HS2⟩
                case measure => simp [intOf]
end Go.Proofs.Ytokjbjfpgjincaa
