/-
  Walk of BuildNear.
-/
import Derived.Test.YtbdjgaagafnfaaaBworld
set_option maxRecDepth 20000
namespace Go.Proofs.Ytbdjgaagafnfaaa
open C Go.RowKit

/-! ### ground that is the same near a chunk -/
def nrB (i k : Nat) : Bool := decide ((-2 ≤ (i : Int) % 3 * 16 + (k : Int) % 16 - 16 ∧ (i : Int) % 3 * 16 + (k : Int) % 16 - 16 < 18) ∧ (-2 ≤ (i : Int) / 3 * 16 + (k : Int) / 16 - 16 ∧ (i : Int) / 3 * 16 + (k : Int) / 16 - 16 < 18))
def mixTo (A B : List (List Int)) : Nat → List (List Int)
  | 0 => B
  | m + 1 => if nrB (m / 256) (m % 256) = true then (mixTo A B m).set (m / 256) (((mixTo A B m).getD (m / 256) []).set (m % 256) ((A.getD (m / 256) []).getD (m % 256) 0)) else mixTo A B m
theorem mix_ok {v : Int} {A B : List (List Int)} (hA : okG v A) (hB : okG v B) : ∀ m, m ≤ 2304 → okG v (mixTo A B m)
  | 0, _ => hB
  | m + 1, hm => by
    obtain ⟨h1, h2⟩ := mix_ok hA hB m (by omega)
    unfold mixTo
    split
    · have hq : m / 256 < (mixTo A B m).length := by rw [h1]; omega
      refine ⟨by rw [List.length_set]; exact h1, fun i hi => ?_⟩
      rw [getD_setL _ _ i _ hq]
      by_cases e : m / 256 = i
      · rw [if_pos e, e]
        refine ⟨by rw [List.length_set]; exact (h2 i hi).1, fun k hk => ?_⟩
        rw [getD_set _ _ _ _ (by rw [(h2 i hi).1]; omega)]
        by_cases e2 : m % 256 = k
        · rw [if_pos e2, e2]
          exact (hA.2 i hi).2 k hk
        · rw [if_neg e2]
          exact (h2 i hi).2 k hk
      · rw [if_neg e]
        exact h2 i hi
    · exact ⟨h1, h2⟩
theorem mix_at {v : Int} {A B : List (List Int)} (hA : okG v A) (hB : okG v B) {i k : Nat} (hi : i < 9) (hk : k < 256) (hn : nrB i k = true) : ∀ m, m ≤ 2304 → i * 256 + k < m → ((mixTo A B m).getD i []).getD k 0 = (A.getD i []).getD k 0
  | 0, _, h => by omega
  | m + 1, hm, h => by
    obtain ⟨h1, h2⟩ := mix_ok hA hB m (by omega)
    have hq : m / 256 < (mixTo A B m).length := by rw [h1]; omega
    unfold mixTo
    by_cases em : i * 256 + k = m
    · have e1 : m / 256 = i := by omega
      have e2 : m % 256 = k := by omega
      rw [e1, e2, if_pos hn, getD_setL _ _ i _ (by rw [h1]; exact hi), if_pos rfl, getD_set _ _ _ _ (by rw [(h2 i hi).1]; exact hk), if_pos rfl]
    · have ih := mix_at hA hB hi hk hn m (by omega) (by omega)
      split
      · rw [getD_setL _ _ i _ hq]
        by_cases e : m / 256 = i
        · rw [if_pos e, e, getD_set _ _ _ _ (by rw [(h2 i hi).1]; omega)]
          rw [if_neg (by omega)]
          exact ih
        · rw [if_neg e]
          exact ih
      · exact ih
theorem mix_near {v cx cz : Int} {A B : List (List Int)} (hA : okG v A) (hB : okG v B) {x z : Int} (hx : cx * 16 - 2 ≤ x ∧ x ≤ cx * 16 + 17) (hz : cz * 16 - 2 ≤ z ∧ z ≤ cz * 16 + 17) : gAt cx cz A x z = gAt cx cz (mixTo A B 2304) x z := by
  unfold gAt
  obtain ⟨a, ha⟩ : ∃ a : Nat, x / 16 - cx + 1 = (a : Int) := ⟨(x / 16 - cx + 1).toNat, by omega⟩
  obtain ⟨b, hb⟩ : ∃ b : Nat, z / 16 - cz + 1 = (b : Int) := ⟨(z / 16 - cz + 1).toNat, by omega⟩
  obtain ⟨c, hc⟩ : ∃ c : Nat, x % 16 = (c : Int) := ⟨(x % 16).toNat, by omega⟩
  obtain ⟨d, hd⟩ : ∃ d : Nat, z % 16 = (d : Int) := ⟨(z % 16).toNat, by omega⟩
  rw [ha, hb, hc, hd, show ((b : Int) * 3 + (a : Int)).toNat = b * 3 + a by omega, show ((d : Int) * 16 + (c : Int)).toNat = d * 16 + c by omega]
  have ba : a ≤ 2 := by omega
  have bb : b ≤ 2 := by omega
  have bc : c < 16 := by omega
  have bd : d < 16 := by omega
  refine (mix_at hA hB (by omega) (by omega) ?_ 2304 (by omega) (by omega)).symm
  unfold nrB
  rw [decide_eq_true_iff]
  have r1 : ((b * 3 + a : Nat) : Int) % 3 = a := by omega
  have r2 : ((b * 3 + a : Nat) : Int) / 3 = b := by omega
  have r3 : ((d * 16 + c : Nat) : Int) % 16 = c := by omega
  have r4 : ((d * 16 + c : Nat) : Int) / 16 = d := by omega
  rw [r1, r2, r3, r4]
  omega
/-- Four times nine lists: two stay, two come near to them. -/
structure Four9 (w4 : World) (b1 : Nat) (g1 c1 : Nat → Nat) (A : List (List Int)) (b2 : Nat) (g2 c2 : Nat → Nat) (B : List (List Int)) (b3 : Nat) (g3 c3 : Nat → Nat) (P : List (List Int)) (b4 : Nat) (g4 c4 : Nat → Nat) (Q : List (List Int)) (w : World) : Prop where
  a : L9 w b1 g1 c1 A
  b : L9 w b2 g2 c2 B
  p : L9 w b3 g3 c3 P
  q : L9 w b4 g4 c4 Q
  bel : Below w4.heap.size w4 w
theorem Four9.drewN {w4 : World} {b1 b2 b3 b4 : Nat} {g1 c1 g2 c2 g3 c3 g4 c4 : Nat → Nat} {A B P Q : List (List Int)} {w : World} (h : Four9 w4 b1 g1 c1 A b2 g2 c2 B b3 g3 c3 P b4 g4 c4 Q w) : Four9 w4 b1 g1 c1 A b2 g2 c2 B b3 g3 c3 P b4 g4 c4 Q (w.drewN 1) :=
  ⟨⟨h.a.n, h.a.row, h.a.pre, h.a.len⟩, ⟨h.b.n, h.b.row, h.b.pre, h.b.len⟩, ⟨h.p.n, h.p.row, h.p.pre, h.p.len⟩, ⟨h.q.n, h.q.row, h.q.pre, h.q.len⟩, below_drewN h.bel 1⟩
structure Apart4 (w4 : World) (g1 g2 g3 g4 : Nat → Nat) : Prop where
  a3 : Apart9 g3
  a4 : Apart9 g4
  n25 : ∀ i j, i < 9 → j < 9 → g3 i ≠ g4 j
  lo : ∀ i, i < 9 → w4.heap.size ≤ g3 i ∧ w4.heap.size ≤ g4 i
  hi : ∀ i, i < 9 → g1 i < w4.heap.size ∧ g2 i < w4.heap.size
theorem Four9.setP {w4 : World} {b1 b2 b3 b4 : Nat} {g1 c1 g2 c2 g3 c3 g4 c4 : Nat → Nat} {A B P Q : List (List Int)} {w : World} (h : Four9 w4 b1 g1 c1 A b2 g2 c2 B b3 g3 c3 P b4 g4 c4 Q w) (ap : Apart4 w4 g1 g2 g3 g4) {n : Nat} (hn : n < 9) (k : Nat) (v : Int) :
    Four9 w4 b1 g1 c1 A b2 g2 c2 B b3 g3 c3 (P.set n ((P.getD n []).set k v)) b4 g4 c4 Q (w.setCell ⟨g3 n, k, none⟩ (.int .i64 v)) := by
  have hp := h.p.pre n hn
  have hl : 0 < (P.getD n []).length := by rw [h.p.len n hn]; omega
  exact ⟨h.a.other hp hl (fun i hi e => by have := (ap.hi i hi).1; have := (ap.lo n hn).1; omega) _, h.b.other hp hl (fun i hi e => by have := (ap.hi i hi).2; have := (ap.lo n hn).1; omega) _, h.p.set ap.a3 n k v hn, h.q.other hp hl (fun i hi e => ap.n25 n i hn hi e.symm) _, h.bel.setCell (p := ⟨g3 n, k, none⟩) (ap.lo n hn).1 _⟩
theorem Four9.setQ {w4 : World} {b1 b2 b3 b4 : Nat} {g1 c1 g2 c2 g3 c3 g4 c4 : Nat → Nat} {A B P Q : List (List Int)} {w : World} (h : Four9 w4 b1 g1 c1 A b2 g2 c2 B b3 g3 c3 P b4 g4 c4 Q w) (ap : Apart4 w4 g1 g2 g3 g4) {n : Nat} (hn : n < 9) (k : Nat) (v : Int) :
    Four9 w4 b1 g1 c1 A b2 g2 c2 B b3 g3 c3 P b4 g4 c4 (Q.set n ((Q.getD n []).set k v)) (w.setCell ⟨g4 n, k, none⟩ (.int .i64 v)) := by
  have hp := h.q.pre n hn
  have hl : 0 < (Q.getD n []).length := by rw [h.q.len n hn]; omega
  exact ⟨h.a.other hp hl (fun i hi e => by have := (ap.hi i hi).1; have := (ap.lo n hn).2; omega) _, h.b.other hp hl (fun i hi e => by have := (ap.hi i hi).2; have := (ap.lo n hn).2; omega) _, h.p.other hp hl (fun i hi e => ap.n25 i n hi hn e) _, h.q.set ap.a4 n k v hn, h.bel.setCell (p := ⟨g4 n, k, none⟩) (ap.lo n hn).2 _⟩
set_option maxRecDepth 1000000 in
set_option maxHeartbeats 4000000 in
theorem buildNear_walk (J : BSpec) (S : Nat) (cx cz : Int) (a : Option Addr) (n cap : Nat) (p : Option Addr) (ns cp : Nat) (l : List Spot) (w : World) (hS : S < 18446744073709551616) (hR : Runs w a n) (hP : SpotsAt w w.heap.size p ns l) (hns : ns ≤ 9223372036854775807) (hG : J.G w) :
    Calls Try.prog 4 #[.int .u64 S, .agg #[.int .i64 cx, .int .i64 cz], .slice a n cap, .slice p ns cp] w fun e w' => e = .returned (.bool true) ∧ Below w.heap.size w w' := by
  have HR : Hid (Runs w a n) := hR
  have HS : Hid (SpotsAt w w.heap.size p ns l) := hP
  clear hR hP
  have HG : Hid (J.G w) := hG
  clear hG
  obtain ⟨β, hβ⟩ := far_bool cx cz
  by_cases hf : Far 1073741824 cx ∧ Far 1073741824 cz
  case neg =>
    obtain rfl : β = true := by
      rcases β with _ | _
      · exact absurd (hβ.1 rfl) hf
      · rfl
    have Hfar : Hid (∀ w1, Calls Try.prog 10 #[.agg #[.int .i64 cx, .int .i64 cz]] w1 fun e w' => e = .returned (.bool true) ∧ Below w1.heap.size w1 w') := fun w1 => far_c cx cz _ w1 hβ
    clear hβ hf
    go_enter Try.func4, Try.ntmps4
    go_wp2_with fail
    refine (awake_c J _ (J.on HG.out (Bx.start w cx cz).bel)).mono ?_
    rintro _ w1 ⟨rfl, hw1⟩
    have HB1 : Hid (Bx w cx cz w1) := (Bx.start w cx cz).on hw1
    have k0 := HB1.out.k0
    have k1 := HB1.out.k1
    clear hw1
    have hfar := Hfar.out w1
    go_wp2_with fail
    refine hfar.mono ?_
    clear hfar k0 k1
    rintro _ w2 ⟨rfl, hb2⟩
    have HB2 : Hid (Bx w cx cz w2) := HB1.out.on hb2
    clear hb2 HB1
    go_wp2
    go_ret
    exact ⟨rfl, HB2.out.bel⟩
  obtain rfl : β = false := hβ.2 hf
  have Hfar : Hid (∀ w1, Calls Try.prog 10 #[.agg #[.int .i64 cx, .int .i64 cz]] w1 fun e w' => e = .returned (.bool false) ∧ Below w1.heap.size w1 w') := fun w1 => far_c cx cz _ w1 hβ
  clear hβ
  by_cases c4 : 1000 < n
  case pos =>
    have c4' : (1000 : Int) < (n : Int) := by omega
    go_enter Try.func4, Try.ntmps4
    go_wp2_with fail
    refine (awake_c J _ (J.on HG.out (Bx.start w cx cz).bel)).mono ?_
    rintro _ w1 ⟨rfl, hw1⟩
    have HB1 : Hid (Bx w cx cz w1) := (Bx.start w cx cz).on hw1
    have k0 := HB1.out.k0
    have k1 := HB1.out.k1
    clear hw1
    have hfar := Hfar.out w1
    go_wp2_with fail
    refine hfar.mono ?_
    clear hfar k0 k1
    rintro _ w2 ⟨rfl, hb2⟩
    have HB2 : Hid (Bx w cx cz w2) := HB1.out.on hb2
    clear hb2 HB1
    go_wp2
    go_ret
    exact ⟨rfl, HB2.out.bel⟩
  have hn1 : n ≤ 1000 := by omega
  have c4' : ¬ (1000 : Int) < (n : Int) := by omega
  go_enter Try.func4, Try.ntmps4
  go_wp2_with fail
  refine (awake_c J _ (J.on HG.out (Bx.start w cx cz).bel)).mono ?_
  rintro _ w1 ⟨rfl, hw1⟩
  have HB1 : Hid (Bx w cx cz w1) := (Bx.start w cx cz).on hw1
  have k0 := HB1.out.k0
  have k1 := HB1.out.k1
  clear hw1
  have hfar := Hfar.out w1
  go_wp2_with fail
  refine hfar.mono ?_
  clear hfar k0 k1
  rintro _ w2 ⟨rfl, hb2⟩
  have HB2 : Hid (Bx w cx cz w2) := HB1.out.on hb2
  have hcl := cells_c a n cap none 0 0 w2 (HR.out.on HB2.out.bel) (fun k hk => by omega) hn1 (by omega)
  clear hb2 HB1
  go_wp2_with fail
  refine hcl.mono ?_
  clear hcl c4 c4'
  rintro _ w3 ⟨rfl, cs, hC3, hl, hk, hb3⟩
  have HB3 : Hid (Bx w cx cz w3) := HB2.out.on hb3
  have HC : Hid (cs.length = 32768 ∧ Kinds cs) := ⟨hl, hk⟩
  have HC3 : Hid (Blk w3 w2.heap.size 5 cs) := hC3
  clear hb3 hC3 hl hk HB2
  generalize w2.heap.size = bg at *
  have k0 := HB3.out.k0
  have k1 := HB3.out.k1
  have hla := land_c S cx cz none 0 0 [] w3 hS hf.1 hf.2 (no_spots _ _) (by omega)
  have HoA : Hid (okG 128 (chg 128 (·.h) (groundH S cx cz) [] (min 0 3000)) ∧ okG 4 (chg 4 (·.b) (groundB S cx cz) [] (min 0 3000))) := ⟨chg_ok (by omega) (groundH_ok _ _ _) _, chg_ok (by omega) (groundB_ok _ _ _) _⟩
  generalize chg 128 (·.h) (groundH S cx cz) [] (min 0 3000) = A at *
  generalize chg 4 (·.b) (groundB S cx cz) [] (min 0 3000) = B at *
  go_wp2_with fail
  refine hla.mono ?_
  clear hla k0 k1
  rintro _ w4 ⟨hb4, b1, cp1, g1, c1, b2, cp2, g2, c2, rfl, hL1, hL2, _⟩
  have HB4 : Hid (Bx w cx cz w4) := HB3.out.on hb4
  have HL4 : Hid (L9 w4 b1 g1 c1 A ∧ L9 w4 b2 g2 c2 B ∧ Blk w4 bg 5 cs) := ⟨hL1, hL2, HC3.out.below hb4 HC3.out.lt⟩
  clear hb4 hL1 hL2 HB3 HC3
  have k0 := HB4.out.k0
  have k1 := HB4.out.k1
  have hla := land_c S cx cz p ns cp l w4 hS hf.1 hf.2 ((HS.out.on HB4.out.bel).up HB4.out.bel.size) hns
  have HoP : Hid (okG 128 (chg 128 (·.h) (groundH S cx cz) l (min ns 3000)) ∧ okG 4 (chg 4 (·.b) (groundB S cx cz) l (min ns 3000))) := ⟨chg_ok (by omega) (groundH_ok _ _ _) _, chg_ok (by omega) (groundB_ok _ _ _) _⟩
  generalize chg 128 (·.h) (groundH S cx cz) l (min ns 3000) = P at *
  generalize chg 4 (·.b) (groundB S cx cz) l (min ns 3000) = Q at *
  go_wp2_with fail
  refine hla.mono ?_
  clear hla k0 k1
  rintro _ w5 ⟨hb5, b3, cp3, g3, c3, b4, cp4, g4, c4, rfl, hL3, hL4, ha3, ha4, h25, hlo⟩
  have HA : Hid (Apart4 w4 g1 g2 g3 g4) := ⟨ha3, ha4, h25, hlo, fun i hi => ⟨(HL4.out.1.pre i hi).lt, (HL4.out.2.1.pre i hi).lt⟩⟩
  have HM : Hid (Four9 w4 b1 g1 c1 A b2 g2 c2 B b3 g3 c3 (mixTo A P 0) b4 g4 c4 (mixTo B Q 0) w5) := ⟨HL4.out.1.on hb5, HL4.out.2.1.on hb5, hL3, hL4, hb5⟩
  clear hb5 hL3 hL4 ha3 ha4 h25 hlo
  go_wp2_with fail
  go_loopw [16] (fun v wr => ∃ I : Nat, v = .int .i64 (I : Int) ∧ I ≤ 9 ∧ Hid (Four9 w4 b1 g1 c1 A b2 g2 c2 B b3 g3 c3 (mixTo A P (I * 256)) b4 g4 c4 (mixTo B Q (I * 256)) wr)) (fun v _ => 9 - (intOf v).toNat)
  case atStart => exact ⟨0, rfl, by omega, by rw [Nat.zero_mul]; exact HM.out⟩
  case round =>
    clear HM
    obtain ⟨I, rfl, hI, HM⟩ := hrel
    by_cases hlt : I < 9
    case pos =>
      have hlt' : (I : Int) < 9 := by omega
      obtain ⟨wq, hwq⟩ : ∃ wq, wq = wr := ⟨_, rfl⟩
      subst hwq
      go_wp2
      go_loopw [17] (fun v wr => ∃ K : Nat, v = .int .i64 (K : Int) ∧ K ≤ 256 ∧ Hid (Four9 w4 b1 g1 c1 A b2 g2 c2 B b3 g3 c3 (mixTo A P (I * 256 + K)) b4 g4 c4 (mixTo B Q (I * 256 + K)) wr)) (fun v _ => 256 - (intOf v).toNat)
      case atStart => exact ⟨0, rfl, by omega, HM.out⟩
      case round =>
        clear HM
        obtain ⟨K, rfl, hK, HM⟩ := hrel
        by_cases hlk : K < 256
        case neg =>
          have hge : ¬ (K : Int) < 256 := by omega
          have HM2 : Hid (Four9 w4 b1 g1 c1 A b2 g2 c2 B b3 g3 c3 (mixTo A P ((I + 1) * 256)) b4 g4 c4 (mixTo B Q ((I + 1) * 256)) wr) := by
            rw [show (I + 1) * 256 = I * 256 + K by omega]; exact HM.out
          clear HM
          go_wp2
          exact ⟨⟨I + 1, by simp, by omega, HM2⟩, by simp [intOf]; omega⟩
        have hlk' : (K : Int) < 256 := by omega
        have t1 : Int.tmod (I : Int) 3 = (I : Int) % 3 := Int.tmod_eq_emod_of_nonneg (by omega)
        have t2 : Int.tdiv (I : Int) 3 = (I : Int) / 3 := Int.tdiv_eq_ediv_of_nonneg (by omega)
        have t3 : Int.tmod (K : Int) 16 = (K : Int) % 16 := Int.tmod_eq_emod_of_nonneg (by omega)
        have t4 : Int.tdiv (K : Int) 16 = (K : Int) / 16 := Int.tdiv_eq_ediv_of_nonneg (by omega)
        have r1 : 0 ≤ (I : Int) % 3 ∧ (I : Int) % 3 ≤ 2 := by omega
        have r2 : 0 ≤ (I : Int) / 3 ∧ (I : Int) / 3 ≤ 2 := by omega
        have r3 : 0 ≤ (K : Int) % 16 ∧ (K : Int) % 16 ≤ 15 := by omega
        have r4 : 0 ≤ (K : Int) / 16 ∧ (K : Int) / 16 ≤ 15 := by omega
        have eI : (I * 256 + K) / 256 = I := by omega
        have eK : (I * 256 + K) % 256 = K := by omega
        have HmA : Hid (mixTo A P (I * 256 + K + 1) = if nrB I K = true then (mixTo A P (I * 256 + K)).set I (((mixTo A P (I * 256 + K)).getD I []).set K ((A.getD I []).getD K 0)) else mixTo A P (I * 256 + K)) := by
          show _ = _
          rw [mixTo, eI, eK]
        have HmB : Hid (mixTo B Q (I * 256 + K + 1) = if nrB I K = true then (mixTo B Q (I * 256 + K)).set I (((mixTo B Q (I * 256 + K)).getD I []).set K ((B.getD I []).getD K 0)) else mixTo B Q (I * 256 + K)) := by
          show _ = _
          rw [mixTo, eI, eK]
        have Hnr : Hid (nrB I K = true ↔ (-2 ≤ (I : Int) % 3 * 16 + (K : Int) % 16 - 16 ∧ (I : Int) % 3 * 16 + (K : Int) % 16 - 16 < 18) ∧ (-2 ≤ (I : Int) / 3 * 16 + (K : Int) / 16 - 16 ∧ (I : Int) / 3 * 16 + (K : Int) / 16 - 16 < 18)) := by
          show _ ↔ _
          unfold nrB
          rw [decide_eq_true_iff]
        clear eI eK
        generalize mixTo A P (I * 256 + K) = P1 at *
        generalize mixTo B Q (I * 256 + K) = Q1 at *
        generalize (I : Int) % 3 = R3 at *
        generalize (I : Int) / 3 = Q3 at *
        generalize (K : Int) % 16 = R16 at *
        generalize (K : Int) / 16 = Q16 at *
        obtain ⟨r10, r11⟩ := r1
        obtain ⟨r20, r21⟩ := r2
        obtain ⟨r30, r23⟩ := r3
        obtain ⟨r40, r41⟩ := r4
        have Hno : Hid (¬ ((-2 ≤ R3 * 16 + R16 - 16 ∧ R3 * 16 + R16 - 16 < 18) ∧ (-2 ≤ Q3 * 16 + Q16 - 16 ∧ Q3 * 16 + Q16 - 16 < 18)) → Four9 w4 b1 g1 c1 A b2 g2 c2 B b3 g3 c3 (mixTo A P (I * 256 + (K + 1))) b4 g4 c4 (mixTo B Q (I * 256 + (K + 1))) wr) := fun h => by
          have e : ¬ nrB I K = true := fun h' => h (Hnr.out.1 h')
          rw [← Nat.add_assoc, HmA.out, HmB.out, if_neg e, if_neg e]
          exact HM.out
        by_cases x0 : -2 ≤ R3 * 16 + R16 - 16
        case neg =>
          have HN : Hid _ := Hno.out (fun h => x0 h.1.1)
          clear Hno HmA HmB Hnr HM
          go_wp2
          exact ⟨⟨K + 1, by simp, by omega, HN⟩, by simp [intOf]; omega⟩
        by_cases x1 : R3 * 16 + R16 - 16 < 18
        case neg =>
          have HN : Hid _ := Hno.out (fun h => x1 h.1.2)
          clear Hno HmA HmB Hnr HM
          go_wp2
          exact ⟨⟨K + 1, by simp, by omega, HN⟩, by simp [intOf]; omega⟩
        by_cases y0 : -2 ≤ Q3 * 16 + Q16 - 16
        case neg =>
          have HN : Hid _ := Hno.out (fun h => y0 h.2.1)
          clear Hno HmA HmB Hnr HM
          go_wp2
          exact ⟨⟨K + 1, by simp, by omega, HN⟩, by simp [intOf]; omega⟩
        by_cases y1 : Q3 * 16 + Q16 - 16 < 18
        case neg =>
          have HN : Hid _ := Hno.out (fun h => y1 h.2.2)
          clear Hno HmA HmB Hnr HM
          go_wp2
          exact ⟨⟨K + 1, by simp, by omega, HN⟩, by simp [intOf]; omega⟩
        have HmA2 : Hid (mixTo A P (I * 256 + (K + 1)) = P1.set I ((P1.getD I []).set K ((A.getD I []).getD K 0)) ∧ mixTo B Q (I * 256 + (K + 1)) = Q1.set I ((Q1.getD I []).set K ((B.getD I []).getD K 0))) := by
          have e : nrB I K = true := Hnr.out.2 ⟨⟨x0, x1⟩, y0, y1⟩
          have h1 := HmA.out
          have h2 := HmB.out
          rw [if_pos e] at h1 h2
          exact ⟨h1, h2⟩
        clear Hno HmA HmB Hnr
        have s1 := HM.out.a.row I hlt
        have s2 := (HM.out.a.pre I hlt).cell (k := K) (by rw [HM.out.a.len I hlt]; exact hlk)
        have s3 := HM.out.p.row I hlt
        have HMd : Hid (Four9 w4 b1 g1 c1 A b2 g2 c2 B b3 g3 c3 P1 b4 g4 c4 Q1 (wr.drewN 1)) := HM.out.drewN
        clear HM
        generalize (A.getD I []).getD K 0 = va at *
        go_wp2_with fail
        refine wp_region_tail 13 (by kernel_rfl) (by kernel_rfl) ?_
        simp only [List.take_succ_cons, List.take_zero, List.drop_succ_cons, List.drop_zero]
        repeat still_step
        refine wpStill_nil ?_
        clear s1 s2 s3 t1 t2 t3 t4 x0 x1 y0 y1
        have pH := (HMd.out.p.pre I hlt).cell (k := K) (by rw [HMd.out.p.len I hlt]; exact hlk)
        have fH := (HMd.out.p.pre I hlt).free K
        have HM2 : Hid (Four9 w4 b1 g1 c1 A b2 g2 c2 B b3 g3 c3 (P1.set I ((P1.getD I []).set K va)) b4 g4 c4 Q1 ((wr.drewN 1).setCell ⟨g3 I, K, none⟩ (.int .i64 va))) := HMd.out.setP HA.out hlt K va
        clear HMd
        generalize wr.drewN 1 = vx at *
        generalize (P1.getD I []).getD K 0 = oldP at pH
        go_wp2_with fail
        clear pH fH
        generalize vx.setCell ⟨g3 I, K, none⟩ (.int .i64 va) = vb at *
        have s1 := HM2.out.b.row I hlt
        have s2 := (HM2.out.b.pre I hlt).cell (k := K) (by rw [HM2.out.b.len I hlt]; exact hlk)
        have s3 := HM2.out.q.row I hlt
        have HMd : Hid (Four9 w4 b1 g1 c1 A b2 g2 c2 B b3 g3 c3 (P1.set I ((P1.getD I []).set K va)) b4 g4 c4 Q1 (vb.drewN 1)) := HM2.out.drewN
        clear HM2
        generalize (B.getD I []).getD K 0 = vv at *
        refine wp_region_tail 13 (by kernel_rfl) (by kernel_rfl) ?_
        simp only [List.take_succ_cons, List.take_zero, List.drop_succ_cons, List.drop_zero]
        repeat still_step
        refine wpStill_nil ?_
        clear s1 s2 s3
        have pH := (HMd.out.q.pre I hlt).cell (k := K) (by rw [HMd.out.q.len I hlt]; exact hlk)
        have fH := (HMd.out.q.pre I hlt).free K
        have HE : Hid (Four9 w4 b1 g1 c1 A b2 g2 c2 B b3 g3 c3 (mixTo A P (I * 256 + (K + 1))) b4 g4 c4 (mixTo B Q (I * 256 + (K + 1))) ((vb.drewN 1).setCell ⟨g4 I, K, none⟩ (.int .i64 vv))) := by
          rw [HmA2.out.1, HmA2.out.2]
          exact HMd.out.setQ HA.out hlt K vv
        clear HMd HmA2
        generalize vb.drewN 1 = vy at *
        generalize (Q1.getD I []).getD K 0 = oldQ at pH
        go_wp2
        exact ⟨⟨K + 1, by simp, by omega, HE⟩, by simp [intOf]; omega⟩
    have hge : ¬ (I : Int) < 9 := by omega
    obtain rfl : I = 9 := by omega
    have HB5 : Hid (Bx w cx cz wr) := ⟨HB4.out.bel.trans (HM.out.bel.mono HB4.out.bel.size), (HM.out.bel.block _ (Array.getElem?_eq_some_iff.1 HB4.out.box).1).trans HB4.out.box⟩
    have HN : Hid (buildN S cx cz A B cs = buildN S cx cz (mixTo A P 2304) (mixTo B Q 2304) cs ∧ okG 128 (mixTo A P 2304) ∧ okG 4 (mixTo B Q 2304)) := ⟨build_near (fun x z hx hz => ⟨mix_near HoA.out.1 HoP.out.1 hx hz, mix_near HoA.out.2 HoP.out.2 hx hz⟩), mix_ok HoA.out.1 HoP.out.1 _ (by omega), mix_ok HoA.out.2 HoP.out.2 _ (by omega)⟩
    have hM : Four9 w4 b1 g1 c1 A b2 g2 c2 B b3 g3 c3 (mixTo A P 2304) b4 g4 c4 (mixTo B Q 2304) wr := HM.out
    have HC5 : Hid (Blk wr bg 5 cs) := HL4.out.2.2.below hM.bel HL4.out.2.2.lt
    have HM5 : Hid (L9 wr b1 g1 c1 A ∧ L9 wr b2 g2 c2 B ∧ L9 wr b3 g3 c3 (mixTo A P 2304) ∧ L9 wr b4 g4 c4 (mixTo B Q 2304)) := ⟨hM.a, hM.b, hM.p, hM.q⟩
    clear HM hM HB4 HL4 HA
    generalize mixTo A P 2304 = P2 at *
    generalize mixTo B Q 2304 = Q2 at *
    have hfr := from_c (some ⟨bg, 0, none⟩) 32768 32768 cs wr (Blk.src2 HC5.out HC.out.1 HC.out.2) (by omega)
    have hmay := kinds_may HC.out.2 HC.out.1
    go_wp2_with fail
    refine hfr.mono ?_
    clear hfr
    rintro _ w6 ⟨hb6, h6⟩
    rcases h6 with ⟨_, rfl, hX6⟩ | ⟨hno, _⟩
    case inr => exact absurd hmay hno
    have HB6 : Hid (Bx w cx cz w6) := HB5.out.on hb6
    have HC6 : Hid (L9 w6 b1 g1 c1 A ∧ L9 w6 b2 g2 c2 B ∧ L9 w6 b3 g3 c3 P2 ∧ L9 w6 b4 g4 c4 Q2 ∧ Blk w6 wr.heap.size 74 cs) := ⟨HM5.out.1.on hb6, HM5.out.2.1.on hb6, HM5.out.2.2.1.on hb6, HM5.out.2.2.2.on hb6, hX6⟩
    clear hb6 HB5 HC5 HM5 hX6 hmay
    generalize wr.heap.size = xg at *
    have k0 := HB6.out.k0
    have k1 := HB6.out.k1
    have hap := J.apply_ S cx cz xg cs (some ⟨b1, 0, none⟩) (some ⟨b2, 0, none⟩) cp1 cp2 A B w6 hS (far_up hf.1) (far_up hf.2) HC6.out.2.2.2.2 HC.out.1 HC.out.2 HC6.out.1.rows HC6.out.2.1.rows HoA.out.1 HoA.out.2 (J.on HG.out HB6.out.bel)
    go_wp2_with fail
    refine hap.mono ?_
    clear hap k0 k1
    rintro _ w7 ⟨hb7, yg, rfl, hY7⟩
    have HB7 : Hid (Bx w cx cz w7) := HB6.out.on hb7
    have HC7 : Hid (L9 w7 b3 g3 c3 P2 ∧ L9 w7 b4 g4 c4 Q2 ∧ Blk w7 xg 74 cs ∧ Blk w7 yg 74 (buildN S cx cz A B cs)) := ⟨HC6.out.2.2.1.on hb7, HC6.out.2.2.2.1.on hb7, HC6.out.2.2.2.2.below hb7 HC6.out.2.2.2.2.lt, hY7⟩
    clear hb7 hY7 HB6 HC6
    have k0 := HB7.out.k0
    have k1 := HB7.out.k1
    have hap := J.apply_ S cx cz xg cs (some ⟨b3, 0, none⟩) (some ⟨b4, 0, none⟩) cp3 cp4 P2 Q2 w7 hS (far_up hf.1) (far_up hf.2) HC7.out.2.2.1 HC.out.1 HC.out.2 HC7.out.1.rows HC7.out.2.1.rows HN.out.2.1 HN.out.2.2 (J.on HG.out HB7.out.bel)
    rw [← HN.out.1] at hap
    go_wp2_with fail
    refine hap.mono ?_
    clear hap k0 k1
    rintro _ w8 ⟨hb8, zg, rfl, hZ8⟩
    have HB8 : Hid (Below w.heap.size w w8) := (HB7.out.on hb8).bel
    have HF : Hid ((buildN S cx cz A B cs).length = 32768 ∧ Kinds (buildN S cx cz A B cs)) := ⟨buildN_len _ _ _ _ _ _, build_kinds HC.out.2⟩
    have HC8 : Hid (Blk w8 yg 74 (buildN S cx cz A B cs) ∧ Blk w8 zg 74 (buildN S cx cz A B cs)) := ⟨HC7.out.2.2.2.below hb8 HC7.out.2.2.2.lt, hZ8⟩
    clear hb8 hZ8 HB7 HC7 HoA HoP HN
    generalize buildN S cx cz A B cs = F at *
    obtain ⟨XF, hXF⟩ : ∃ X, X = strOfNums F := ⟨_, rfl⟩
    have HXF : Hid (XF = strOfNums F) := hXF
    clear hXF
    go_wp2_with fail
    refine region_L (fun w' => Below w8.heap.size w8 w') 24 (by kernel_rfl) ?_
    have hHeld : Below w8.heap.size w8 w8.drew := (Below.refl _ _).drew
    generalize w8.drew = va at *
    have hne : Nonempty (Sub (fun w' => Below w8.heap.size w8 w')) := ⟨⟨_, hHeld⟩⟩
    refine take_L (i := 0) rfl (by kernel_rfl) (by kernel_rfl) (by kernel_rfl) (by kernel_rfl) (fun _ _ _ _ h => h) (by exact hHeld) (fun K hK => ?_)
    go_simp
    refine hK _ ?_
    clear hK K
    refine take_L (i := 1) rfl (by kernel_rfl) (by kernel_rfl) (by kernel_rfl) (by kernel_rfl) (fun _ _ _ _ h => h) (by exact hHeld) (fun K hK => ?_)
    go_simp
    refine hK _ ?_
    clear hK K
    refine take_L (i := 2) rfl (by kernel_rfl) (by kernel_rfl) (by kernel_rfl) (by kernel_rfl) (fun _ _ _ _ h => h) (by exact hHeld) (fun K hK => ?_)
    go_simp
    refine hK _ ?_
    clear hK K
    refine take_L (i := 3) rfl (by kernel_rfl) (by kernel_rfl) (by kernel_rfl) (by kernel_rfl) (fun _ _ _ _ h => h) (by exact hHeld) (fun K hK => ?_)
    go_simp
    refine hK _ ?_
    clear hK K
    refine take_L (i := 4) rfl (by kernel_rfl) (by kernel_rfl) (by kernel_rfl) (by kernel_rfl) (fun _ _ _ _ h => h) (by exact hHeld) (fun K hK => ?_)
    go_simp
    refine hK _ ?_
    clear hK K
    refine take_L (i := 5) rfl (by kernel_rfl) (by kernel_rfl) (by kernel_rfl) (by kernel_rfl) (fun _ _ _ _ h => h) (by exact hHeld) (fun K hK => ?_)
    go_simp
    refine hK _ ?_
    clear hK K
    refine take_L (i := 6) rfl (by kernel_rfl) (by kernel_rfl) (by kernel_rfl) (by kernel_rfl) (fun _ _ _ _ h => h) (by exact hHeld) (fun K hK => ?_)
    go_simp
    refine hK _ ?_
    clear hK K
    refine take_L (i := 7) rfl (by kernel_rfl) (by kernel_rfl) (by kernel_rfl) (by kernel_rfl) (fun _ _ _ _ h => h) (by exact hHeld) (fun K hK => ?_)
    go_simp
    refine hK _ ?_
    clear hK K
    refine take_L (i := 8) rfl (by kernel_rfl) (by kernel_rfl) (by kernel_rfl) (by kernel_rfl) (fun _ _ _ _ h => h) (by exact hHeld) (fun K hK => ?_)
    go_simp
    refine hK _ ?_
    clear hK K
    refine take_L (i := 9) rfl (by kernel_rfl) (by kernel_rfl) (by kernel_rfl) (by kernel_rfl) (fun _ _ _ _ h => h) (by exact hHeld) (fun K hK => ?_)
    go_simp
    refine hK _ ?_
    clear hK K
    refine take_L (i := 10) rfl (by kernel_rfl) (by kernel_rfl) (by kernel_rfl) (by kernel_rfl) (fun _ _ _ _ h => h) (by exact hHeld) (fun K hK => ?_)
    go_simp
    refine hK _ ?_
    clear hK K
    refine take_L (i := 11) rfl (by kernel_rfl) (by kernel_rfl) (by kernel_rfl) (by kernel_rfl) (fun _ _ _ _ h => h) (by exact hHeld) (fun K hK => ?_)
    go_simp
    refine hK _ ?_
    clear hK K
    refine take_L (i := 12) rfl (by kernel_rfl) (by kernel_rfl) (by kernel_rfl) (by kernel_rfl) (fun _ _ _ _ h => h) (by exact hHeld) (fun K hK => ?_)
    go_simp
    refine hK _ ?_
    clear hK K
    refine take_L (i := 13) rfl (by kernel_rfl) (by kernel_rfl) (by kernel_rfl) (by kernel_rfl) (fun _ _ _ _ h => h) (by exact hHeld) (fun K hK => ?_)
    go_simp
    refine hK _ ?_
    clear hK K
    refine take_L (i := 14) rfl (by kernel_rfl) (by kernel_rfl) (by kernel_rfl) (by kernel_rfl) (fun _ _ _ _ h => h) (by exact hHeld) (fun K hK => ?_)
    go_simp
    refine hK _ ?_
    clear hK K
    refine take_L (i := 15) rfl (by kernel_rfl) (by kernel_rfl) (by kernel_rfl) (by kernel_rfl) (fun _ _ _ _ h => h) (by exact hHeld) (fun K hK => ?_)
    go_simp
    refine hK _ ?_
    clear hK K
    refine take_L (i := 18) rfl (by kernel_rfl) (by kernel_rfl) (by kernel_rfl) (by kernel_rfl) (fun _ _ _ _ h => h) (by exact hHeld) (fun K hK => ?_)
    go_simp
    refine hK _ ?_
    clear hK K
    clear hne
    refine one_L (i := 16) (by kernel_rfl) rfl (fun K hK => ?_)
    go_simp
    refine (bytes_c yg F va (HC8.out.1.below hHeld HC8.out.1.lt) HF.out.1).mono ?_
    rintro _ w9 ⟨rfl, hB9, hb9⟩
    replace hHeld : Below w8.heap.size w8 w9 := hHeld.trans (hb9.mono hHeld.size)
    refine hK.out _ _ (fun _ => hHeld) ?_
    clear hK K hb9
    generalize va.heap.size = g9 at *
    refine wpAnyL_strong (S' := fun w' => Below w9.heap.size w9 w') (fun w' h => hHeld.trans (h.mono hHeld.size)) _ _ _ _ ?_
    have HH9 : Hid (Below w8.heap.size w8 w9) := hHeld
    replace hHeld : Below w9.heap.size w9 w9 := Below.refl _ _
    have hne : Nonempty (Sub (fun w' => Below w9.heap.size w9 w')) := ⟨⟨_, hHeld⟩⟩
    have v9 : ∀ s : Sub (fun w' => Below w9.heap.size w9 w'), (convert 37 9 (.slice (some ⟨g9, 0, none⟩) 32768 32768)).run Try.prog s.w = .ok (.string XF) s.w := fun s => by rw [HXF.out]; exact Blk.conv2 (hB9.below s.ok hB9.lt) HF.out.1 HF.out.2
    refine take_L (i := 17) rfl (by kernel_rfl) (by kernel_rfl) (by kernel_rfl) (by kernel_rfl) (fun _ _ _ _ h => h) (by exact hHeld) (fun K hK => ?_)
    go_simp
    refine hK _ ?_
    clear hK K
    clear v9 hne
    refine one_L (i := 19) (by kernel_rfl) rfl (fun K hK => ?_)
    go_simp
    refine (bytes_c zg F w9 (HC8.out.2.below HH9.out HC8.out.2.lt) HF.out.1).mono ?_
    rintro _ w10 ⟨rfl, hB10, hb10⟩
    refine hK.out _ _ (fun _ => hb10) ?_
    clear hK K
    refine wpAnyL_strong (S' := fun w' => Below w10.heap.size w10 w') (fun w' h => hb10.trans (h.mono hb10.size)) _ _ _ _ ?_
    have HH10 : Hid (Below w8.heap.size w8 w10) := HH9.out.trans (hb10.mono HH9.out.size)
    generalize w9.heap.size = g10 at *
    replace hHeld : Below w10.heap.size w10 w10 := Below.refl _ _
    have hne : Nonempty (Sub (fun w' => Below w10.heap.size w10 w')) := ⟨⟨_, hHeld⟩⟩
    have v10 : ∀ s : Sub (fun w' => Below w10.heap.size w10 w'), (convert 37 9 (.slice (some ⟨g10, 0, none⟩) 32768 32768)).run Try.prog s.w = .ok (.string XF) s.w := fun s => by rw [HXF.out]; exact Blk.conv2 (hB10.below s.ok hB10.lt) HF.out.1 HF.out.2
    clear hB10 hb10
    refine take_L (i := 20) rfl (by kernel_rfl) (by kernel_rfl) (by kernel_rfl) (by kernel_rfl) (fun _ _ _ _ h => h) (by exact hHeld) (fun K hK => ?_)
    go_simp
    refine hK _ ?_
    clear hK K
    refine take_L (i := 21) rfl (by kernel_rfl) (by kernel_rfl) (by kernel_rfl) (by kernel_rfl) (fun _ _ _ _ h => h) (by exact hHeld) (fun K hK => ?_)
    go_simp
    refine hK _ ?_
    clear hK K
    refine take_L (i := 22) rfl (by kernel_rfl) (by kernel_rfl) (by kernel_rfl) (by kernel_rfl) (fun _ _ _ _ h => h) (by exact hHeld) (fun K hK => ?_)
    go_simp
    refine hK _ ?_
    clear hK K
    refine take_L (i := 23) rfl (by kernel_rfl) (by kernel_rfl) (by kernel_rfl) (by kernel_rfl) (fun _ _ _ _ h => h) (by exact hHeld) (fun K hK => ?_)
    go_simp
    refine hK _ ?_
    clear hK K
    refine done_L (by kernel_rfl) ?_ _
    have R := HB8.out.trans (HH10.out.mono HB8.out.size)
    clear v10 hne hHeld
    go_wp2
    go_ret
    exact ⟨rfl, R⟩
end Go.Proofs.Ytbdjgaagafnfaaa