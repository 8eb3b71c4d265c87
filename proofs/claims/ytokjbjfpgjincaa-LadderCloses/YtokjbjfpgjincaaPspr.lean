/-
  The ladder's spread: how far away stages are needed, and whether all of them are near enough.
-/
import Derived.Test.YtokjbjfpgjincaaLbase
import Derived.Test.YtokjbjfpgjincaaPmath
import Derived.Lib.MinMax
set_option maxRecDepth 20000
namespace Go.Proofs.Ytokjbjfpgjincaa
open Go.RowKit

/-- Behind some rounds: those from m on are done. -/
structure Sp24 (w : World) (l : Lad) (k n g m : Nat) (r : List Int) (wr : World) : Prop where
  row : IRow wr g r
  len : r.length = n
  eq : downR l m r = spreadL l k
  le : ∀ j, gt r j ≤ 8
  low : ∀ j, -1 ≤ gt r j
  bel : Below w.heap.size w wr
/-- Within a round: the reads from t on are left. -/
structure Sq24 (l : Lad) (n g i : Nat) (V : Int) (r : List Int) (xs : List Rd) (rt : List Int) (wr : World) : Prop where
  row : IRow wr g rt
  len : rt.length = n
  at_ : gt rt i = V
  fold : xs.foldl (stepR V) rt = rowR l i r
  le : ∀ j, gt rt j ≤ 8
  low : ∀ j, -1 ≤ gt rt j
/-- What spread answers. -/
def SpSay (L : List Rn) (k n : Nat) (w : World) (e : Ending) (w' : World) : Prop :=
  ∃ b : Bool, e = .returned (.tuple #[.slice (some ⟨w.heap.size, 0, none⟩) n n, .bool b]) ∧ Below w.heap.size w w' ∧
    (b = true → IRow w' w.heap.size (spreadL (lad L) k) ∧ ∀ v ∈ spreadL (lad L) k, v ≤ 8) ∧ (b = false → ∃ v ∈ spreadL (lad L) k, 8 < v)
theorem start_gt (n k j : Nat) : -1 ≤ gt (startR n k) j ∧ gt (startR n k) j ≤ 8 := by
  unfold startR
  rw [gt_set]
  split
  · omega
  · unfold gt
    rw [List.getD_eq_getElem?_getD, List.getElem?_replicate]
    split <;> simp
set_option maxHeartbeats 2000000 in
theorem spread_c (a : Option Addr) (n c : Nat) (L : List Rn) (k : Nat) (w : World) (hR : RgAt w a L) (hn : L.length = n) (hF : Formed (lad L)) (hk : k < n) :
    Calls Try.prog 24 #[.slice a n c, .int .i64 (k : Int)] w (SpSay L k n w) := by
  obtain ⟨Post, hPost⟩ : ∃ Post : Ending → World → Prop, Post = SpSay L k n w := ⟨_, rfl⟩
  rw [← hPost]
  have HPy : Hid (∀ w', IRow w' w.heap.size (spreadL (lad L) k) → (∀ v ∈ spreadL (lad L) k, v ≤ 8) → Below w.heap.size w w' → Post (.returned (.tuple #[.slice (some ⟨w.heap.size, 0, none⟩) n n, .bool true])) w') := fun w' h1 h2 h3 => by rw [hPost]; exact ⟨true, rfl, h3, fun _ => ⟨h1, h2⟩, fun h => by cases h⟩
  have HPn : Hid (∀ w', (∃ v ∈ spreadL (lad L) k, 8 < v) → Below w.heap.size w w' → Post (.returned (.tuple #[.slice (some ⟨w.heap.size, 0, none⟩) n n, .bool false])) w') := fun w' h1 h3 => by rw [hPost]; exact ⟨false, rfl, h3, (fun h => by cases h), fun _ => h1⟩
  clear hPost
  have HR : Hid (RgAt w a L) := hR
  have Hn : Hid (L.length = n) := hn
  have HF : Hid (Formed (lad L)) := hF
  have hn16 : n ≤ 16 := by have := hF.n; rw [lad_len, hn] at this; exact this
  have hk' : (k : Int) < (n : Int) := by omega
  clear hR hn hF
  go_enter Try.func24, Try.ntmps24
  go_wp2_with fail
  refine wp_scope_straight ?_
  go_wp2_with (at_make; refine wpList_make_ints w rfl _ _ rfl (n : Int) n rfl rfl rfl (by omega) ?_; intro w1 HR1 hb1)
  have Hb1 : Hid (Below w.heap.size w w1) := hb1
  clear hb1
  go_loopw [17] (fun v wr => ∃ (j : Nat), j ≤ n ∧ v = .int .i64 (j : Int) ∧ Hid (IRow wr w.heap.size (List.replicate j (-1) ++ List.replicate (n - j) 0)) ∧ Hid (Below w.heap.size w wr)) (fun v _ => n - (intOf v).toNat)
  case atStart => exact ⟨0, Nat.zero_le _, by go_num, (show IRow _ _ _ by simpa using HR1.out), Hb1⟩
  case round =>
    clear HR1 Hb1
    obtain ⟨j, hj, rfl, HI, HBe⟩ := hrel
    by_cases hlt : j < n
    · have hlt' : (j : Int) < (n : Int) := by omega
      have q0 := HI.out.at (i := j) (by simp; omega)
      have f0 := HI.out.free j
      have HI2 : Hid (IRow (wr.setCell ⟨w.heap.size, j, none⟩ (.int .i64 (-1))) w.heap.size (List.replicate (j + 1) (-1) ++ List.replicate (n - (j + 1)) 0)) := by
        have := HI.out.set j (-1)
        have e : (List.replicate j (-1 : Int) ++ List.replicate (n - j) 0).set j (-1) = List.replicate (j + 1) (-1) ++ List.replicate (n - (j + 1)) 0 := by
          rw [List.set_append_right _ _ (by simp), List.length_replicate, Nat.sub_self, show n - j = (n - (j + 1)) + 1 by omega, List.replicate_succ, List.set_cons_zero, List.replicate_succ', List.append_assoc]
          rfl
        rw [e] at this
        exact this
      have HB2 : Hid (Below w.heap.size w (wr.setCell ⟨w.heap.size, j, none⟩ (.int .i64 (-1)))) := HBe.out.setCell (p := ⟨w.heap.size, j, none⟩) (Nat.le_refl _) _
      generalize (List.replicate j (-1 : Int) ++ List.replicate (n - j) 0).getD j (-1) = o0 at q0
      clear HPy HPn HI HBe
      go_wp2
      go_roundw
      case rel => exact ⟨j + 1, by omega, by go_num, HI2, HB2⟩
      case measure => simp [intOf]; omega
    · obtain rfl : j = n := by omega
      have hge : ¬ (j : Int) < (j : Int) := by omega
      have hI := HI.out
      rw [Nat.sub_self, List.replicate_zero, List.append_nil] at hI
      have q0 := hI.at (i := k) (by simp; omega)
      have f0 := hI.free k
      have HS0 : Hid (Sp24 w (lad L) k j w.heap.size (k + 1) (startR j k) (wr.setCell ⟨w.heap.size, k, none⟩ (.int .i64 0))) := by
        refine ⟨hI.set k 0, by unfold startR; simp, ?_, fun i => (start_gt j k i).2, fun i => (start_gt j k i).1, HBe.out.setCell (p := ⟨w.heap.size, k, none⟩) (Nat.le_refl _) _⟩
        unfold spreadL
        rw [lad_len, Hn.out]
      generalize (List.replicate j (-1 : Int)).getD k (-1) = o0 at q0
      clear HI HBe hI
      go_wp2_with fail
      refine wp_label ?_
      go_wp2_with fail
      generalize wr.setCell ⟨w.heap.size, k, none⟩ (.int .i64 0) = w2 at HS0 ⊢
      clear f0 q0
      go_loopw [5, 29] (fun v5 v wr => ∃ (I : Nat) (r : List Int), I ≤ k + 1 ∧ v5 = .bool true ∧ v = .int .i64 (I : Int) ∧ Hid (Sp24 w (lad L) k j w.heap.size (k + 1 - I) r wr)) (fun _ v _ => k + 1 - (intOf v).toNat)
      case atStart => exact ⟨0, _, Nat.zero_le _, rfl, by go_num, HS0⟩
      case round =>
        clear HS0
        obtain ⟨I, r, hI, rfl, rfl, HS⟩ := hrel
        by_cases hIk : I ≤ k
        · have hIk' : (I : Int) < (k : Int) + 1 := by omega
          obtain ⟨i, hi⟩ : ∃ i, i = k - I := ⟨_, rfl⟩
          have hwk : IntKind.i64.wrap ((k : Int) - (I : Int)) = (i : Int) := by rw [IntKind.wrap_i64]; omega
          have hij : i < j := by omega
          have hij' : (i : Int) < (j : Int) := by omega
          have hil : i < L.length := by rw [Hn.out]; exact hij
          have hmi : k + 1 - I = i + 1 := by omega
          rw [hmi] at HS
          have hmi2 : k + 1 - (I + 1) = i := by omega
          obtain ⟨b, off, rfl, hin⟩ := (HR.out.on HS.out.bel) i hil
          have Hc0 : Hid (wr.cell? ⟨b, off + i, none⟩ = some (.slice L[i].a L[i].r.length L[i].c)) := hin.c0
          have Hrd : Hid (RdAt wr L[i].a L[i].r) := hin.rd
          have Hat : Hid ((lad L).getD i [] = L[i].r) := lad_at L i hil
          have Hrok : Hid (∀ x ∈ L[i].r, readOk i x) := fun x hx => HF.out.ok i x (by rw [lad_at L i hil]; exact hx)
          clear hin
          obtain ⟨ra, hra⟩ : ∃ ra, L[i].a = ra := ⟨_, rfl⟩
          have Hra : Hid (L[i].a = ra) := hra
          rw [hra] at Hc0 Hrd
          clear hra
          generalize L[i].c = rc at *
          generalize L[i].r = rs at *
          obtain ⟨mr, hmr⟩ : ∃ mr, mr = rs.length := ⟨_, rfl⟩
          rw [← hmr] at Hc0
          have Hm : Hid (mr = rs.length) := hmr
          have hmr16 : mr ≤ 16 := by
            have := HF.out.m ((lad L).getD i []) (getD_mem (by rw [lad_len]; exact hil))
            rw [Hat.out] at this
            omega
          clear hmr
          have q0 := HS.out.row.at (i := i) (by rw [HS.out.len]; exact hij)
          obtain ⟨V, hV⟩ : ∃ V, V = gt r i := ⟨_, rfl⟩
          have HV : Hid (V = gt r i) := hV
          have q1 : wr.cell? ⟨w.heap.size, i, none⟩ = some (.int .i64 V) := by rw [hV]; exact q0
          have hVle : V ≤ 8 := by rw [hV]; exact HS.out.le i
          have hVlow : -1 ≤ V := by rw [hV]; exact HS.out.low i
          have q2 : wr.cell? ⟨w.heap.size, k - I, none⟩ = some (.int .i64 V) := by rw [← hi]; exact q1
          have hkI : (k : Int) - (I : Int) < (j : Int) := by omega
          clear hV q0 HPy
          by_cases hV0 : 0 ≤ V
          · have hVe : ¬ V = -1 := by omega
            have HX0 : Hid (Sq24 (lad L) j w.heap.size i V r rs r wr) := ⟨HS.out.row, HS.out.len, HV.out.symm, by unfold rowR; rw [← HV.out, if_pos hV0, Hat.out], HS.out.le, HS.out.low⟩
            have Hfin : Hid (downR (lad L) i (rowR (lad L) i r) = spreadL (lad L) k) := HS.out.eq
            have Hbw : Hid (Below w.heap.size w wr) := HS.out.bel
            clear HS
            have c0 : wr.cell? ⟨b, off + (k - I), none⟩ = some (.slice ra mr rc) := by rw [← hi]; exact Hc0.out
            go_wp2_with fail
            have hVb : (V == -1) = false := by simp; omega
            rw [← hi, hVb]
            have Hmi2 : Hid (k + 1 - (I + 1) = i) := hmi2
            clear c0 q1 q2 hkI hwk hVb hi hmi hmi2
            have hi0 : 0 ≤ (i : Int) := by omega
            obtain ⟨wq, hwq⟩ : ∃ wq, wq = wr := ⟨_, rfl⟩
            subst hwq
            go_loopw [5, 46] (fun v5 v wr => ∃ (t : Nat) (rt : List Int), t ≤ mr ∧ v5 = .bool true ∧ v = .int .i64 (t : Int) ∧ Hid (Sq24 (lad L) j w.heap.size i V r (rs.drop t) rt wr) ∧ Hid (Below w.heap.size w wr)) (fun _ v _ => mr - (intOf v).toNat)
            case atStart => exact ⟨0, r, Nat.zero_le _, rfl, by go_num, HX0, Hbw⟩
            case round =>
              clear HX0 Hbw Hc0 Hrd
              obtain ⟨t, rt, ht, rfl, rfl, HX, HBe⟩ := hrel
              obtain ⟨b', off', e, hin⟩ := (HR.out.on HBe.out) i hil
              cases e
              have Hrd : Hid (RdAt wr L[i].a L[i].r) := hin.rd
              have eR : L[i].r = rs := by have := lad_at L i hil; rw [Hat.out] at this; exact this.symm
              rw [eR] at Hrd
              clear hin
              have eA : L[i].a = ra := Hra.out
              rw [eA] at Hrd
              have q1 : wr.cell? ⟨w.heap.size, i, none⟩ = some (.int .i64 V) := by rw [← HX.out.at_]; exact HX.out.row.at (by rw [HX.out.len]; exact hij)
              by_cases htm : t < mr
              · have htm' : (t : Int) < (mr : Int) := by omega
                have htl : t < rs.length := by rw [← Hm.out]; exact htm
                obtain ⟨rb, ro, rfl, hx⟩ := Hrd.out t htl
                have x0 := hx.c0
                have x1 := hx.c1
                obtain ⟨k1, k2, k3, k4⟩ := Hrok.out rs[t] (List.getElem_mem htl)
                have hdr : rs.drop t = rs[t] :: rs.drop (t + 1) := List.drop_eq_getElem_cons htl
                have Hfold : Hid ((rs.drop (t + 1)).foldl (stepR V) (stepR V rt rs[t]) = rowR (lad L) i r) := by have := HX.out.fold; rw [hdr, List.foldl_cons] at this; exact this
                obtain ⟨⟨s, q⟩, hsq⟩ : ∃ x, rs[t] = x := ⟨_, rfl⟩
                rw [hsq] at x0 x1 k1 k2 k3 k4 Hfold
                simp only at x0 x1 k1 k2 k3 k4
                obtain ⟨S, rfl⟩ := Int.eq_ofNat_of_zero_le k1
                have hSi : S < i := by omega
                have hSj : (S : Int) < (j : Int) := by omega
                have hSl : S < rt.length := by rw [HX.out.len]; omega
                have q2 := HX.out.row.at hSl
                obtain ⟨U, hU⟩ : ∃ U, U = gt rt S := ⟨_, rfl⟩
                have q3 : wr.cell? ⟨w.heap.size, S, none⟩ = some (.int .i64 U) := by rw [hU]; exact q2
                obtain ⟨VQ, hVQ⟩ : ∃ VQ, VQ = V + q := ⟨_, rfl⟩
                have hVQb : VQ ≤ 1000 ∧ 0 ≤ VQ := by omega
                have hwrap : IntKind.i64.wrap (V + q) = VQ := by rw [IntKind.wrap_i64]; omega
                have hgbl : w.heap.size < wr.heap.size := HX.out.row.lt
                have Hstep : Hid (stepR V rt ((S : Int), q) = rt.set S (max U VQ)) := by show _ = _; rw [stepR_max hSl, ← hU, ← hVQ]
                have Hbad : Hid (8 < VQ → ∃ v ∈ spreadL (lad L) k, 8 < v) := fun h => far_bad Hfin.out Hfold.out hSl (by omega)
                have hb2 : Below wr.heap.size wr (wr.alloc (.cells #[.int .i64 (S : Int), .int .i64 q] 45)) := (Below.refl _ _).alloc (Nat.le_refl _) _
                have hnew := heap_alloc_new wr (.cells #[.int .i64 (S : Int), .int .i64 q] 45)
                have y0 : (wr.alloc (.cells #[.int .i64 (S : Int), .int .i64 q] 45)).cell? ⟨wr.heap.size, 0, none⟩ = some (.int .i64 (S : Int)) := by rw [cell_of_row _ _ _ _ 45 (0, 0) hnew]; rfl
                have y1 : (wr.alloc (.cells #[.int .i64 (S : Int), .int .i64 q] 45)).cell? ⟨wr.heap.size, 1, none⟩ = some (.int .i64 q) := by rw [cell_of_row _ _ _ _ 45 (0, 0) hnew]; rfl
                have z1 := cell_below q1 hb2
                have z3 := cell_below q3 hb2
                have HI3 : Hid (IRow (wr.alloc (.cells #[.int .i64 (S : Int), .int .i64 q] 45)) w.heap.size rt) := HX.out.row.on hb2
                have HB3 : Hid (Below w.heap.size w (wr.alloc (.cells #[.int .i64 (S : Int), .int .i64 q] 45))) := HBe.out.alloc HBe.out.size _
                have HXn : Hid (∀ w', ¬ 8 < VQ → IRow w' w.heap.size (rt.set S (max U VQ)) → Sq24 (lad L) j w.heap.size i V r (rs.drop (t + 1)) (rt.set S (max U VQ)) w') := fun w' h8 h1 => by
                  refine ⟨h1, by rw [List.length_set]; exact HX.out.len, by rw [gt_set, if_neg (by omega)]; exact HX.out.at_, by rw [← Hfold.out, Hstep.out], fun u => ?_, fun u => ?_⟩
                  · rw [gt_set]
                    split
                    · have := HX.out.le S; omega
                    · exact HX.out.le u
                  · rw [gt_set]
                    split
                    · omega
                    · exact HX.out.low u
                clear hU hVQ Hstep Hfold HX HBe hb2 hnew hdr hsq hx q1 q2 q3 Hrd Hfin
                go_wp2_with fail
                generalize wr.alloc (.cells #[.int .i64 (S : Int), .int .i64 q] 45) = w3 at *
                by_cases h8 : 8 < VQ
                · have R := fun w' (hb : Below w.heap.size w w') => HPn.out w' (Hbad.out h8) hb
                  have R2 := fun m => R (w3.drewN m) (below_drewN HB3.out m)
                  clear HPn Hbad HXn HI3 HB3 R
                  go_big_quiet (fail)
                  have R := R2 nq
                  clear R2
                  go_wp2
                  exact R
                · go_big_quiet (fail)
                  have z3' : ((w3.drewN nq).drewN 1).cell? ⟨w.heap.size, S, none⟩ = some (.int .i64 U) := z3
                  have y0' : ((w3.drewN nq).drewN 1).cell? ⟨wr.heap.size, 0, none⟩ = some (.int .i64 (S : Int)) := y0
                  have f3' : ((w3.drewN nq).drewN 1).frozen? ⟨w.heap.size, S, none⟩ = false := HI3.out.free S
                  have HI4 : Hid (IRow ((w3.drewN nq).drewN 1) w.heap.size rt) := HI3.out
                  have HB4 : Hid (Below w.heap.size w ((w3.drewN nq).drewN 1)) := ⟨HB3.out.os, HB3.out.tape, HB3.out.output, HB3.out.size, HB3.out.block⟩
                  have HI5 : Hid (IRow (((w3.drewN nq).drewN 1).setCell ⟨w.heap.size, S, none⟩ (.int .i64 (max U VQ))) w.heap.size (rt.set S (max U VQ))) := HI4.out.set S (max U VQ)
                  have HB5 : Hid (Below w.heap.size w (((w3.drewN nq).drewN 1).setCell ⟨w.heap.size, S, none⟩ (.int .i64 (max U VQ)))) := HB4.out.setCell (p := ⟨w.heap.size, S, none⟩) (Nat.le_refl _) _
                  have HX5 : Hid (Sq24 (lad L) j w.heap.size i V r (rs.drop (t + 1)) (rt.set S (max U VQ)) _) := HXn.out _ (by omega) HI5.out
                  clear HXn z1 z3 y0 y1 HI3 HB3 HI4 HB4 HI5 HPn Hbad
                  go_wp2_with fail
                  refine wp_region_tail 10 (by kernel_rfl) (by kernel_rfl) ?_
                  generalize (w3.drewN nq).drewN 1 = w5 at *
                  simp only [List.take_succ_cons, List.take_zero, List.drop_succ_cons, List.drop_zero]
                  repeat still_step
                  refine wpStill_nil ?_
                  go_wp2
                  go_roundw
                  case rel => exact ⟨t + 1, _, by omega, rfl, by go_num, HX5, HB5⟩
                  case measure => simp [intOf]; omega
              · obtain rfl : t = mr := by omega
                have hge2 : ¬ (t : Int) < (t : Int) := by omega
                have hdone : rt = rowR (lad L) i r := by have := HX.out.fold; rw [List.drop_of_length_le (by rw [← Hm.out]; exact Nat.le_refl _)] at this; exact this
                have HS2 : Hid (Sp24 w (lad L) k j w.heap.size (k + 1 - (I + 1)) rt wr) := by
                  rw [Hmi2.out]
                  exact ⟨HX.out.row, HX.out.len, by rw [hdone]; exact Hfin.out, HX.out.le, HX.out.low, HBe.out⟩
                clear hdone HX HBe Hfin Hrd HPn
                go_wp2
                go_roundw
                case rel => exact ⟨I + 1, rt, by omega, rfl, by go_num, HS2⟩
                case measure => simp [intOf]; omega
          · obtain rfl : V = -1 := by omega
            have HS2 : Hid (Sp24 w (lad L) k j w.heap.size (k + 1 - (I + 1)) r wr) := by
              rw [hmi2]
              exact ⟨HS.out.row, HS.out.len, by have := HS.out.eq; rw [downR] at this; unfold rowR at this; rwa [← HV.out, if_neg hV0] at this, HS.out.le, HS.out.low, HS.out.bel⟩
            clear HS HPn
            go_wp2
            go_roundw
            case rel => exact ⟨I + 1, r, by omega, rfl, by go_num, HS2⟩
            case measure => simp [intOf]; omega
        · obtain rfl : I = k + 1 := by omega
          have hge2 : ¬ ((k + 1 : Nat) : Int) < (k : Int) + 1 := by omega
          have e : r = spreadL (lad L) k := by have := HS.out.eq; rw [Nat.sub_self] at this; exact this
          have R := HPy.out wr (by have := HS.out.row; rwa [e] at this) (by rw [← e]; exact le_mem HS.out.le) HS.out.bel
          clear HPy HPn HS e
          go_wp2
          exact R
end Go.Proofs.Ytokjbjfpgjincaa
