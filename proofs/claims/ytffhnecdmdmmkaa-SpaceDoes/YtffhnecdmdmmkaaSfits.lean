/-
  SpaceFits, from what is asked of a space.
-/
import Derived.Test.YtffhnecdmdmmkaaSback
set_option maxRecDepth 20000
namespace Go.Proofs.Ytffhnecdmdmmkaa
open Go.RowKit

/-- The first that is long enough. -/
theorem first_at {n : Nat} : ∀ {l : List Sp} {i : Nat} (hi : i < l.length), (∀ j (hj : j < l.length), j < i → l[j].2 < n) → n ≤ l[i].2 → firstS l n = some l[i]
  | [], i, hi, _, _ => absurd hi (Nat.not_lt_zero _)
  | x :: r, 0, _, _, h => by
    unfold firstS
    rw [List.find?_cons, show decide (n ≤ x.2) = true from decide_eq_true h]
    rfl
  | x :: r, i + 1, hi, hl, h => by
    have h0 := hl 0 (by simp) (by omega)
    have ih := first_at (l := r) (i := i) (by simpa using hi) (fun j hj hji => by have := hl (j + 1) (by simpa using hj) (by omega); simpa using this) (by simpa using h)
    unfold firstS at ih ⊢
    rw [List.find?_cons, show decide (n ≤ x.2) = false from decide_eq_false (by simp only [List.getElem_cons_zero] at h0; omega)]
    simpa using ih
theorem first_no {n : Nat} {l : List Sp} (h : ∀ j (hj : j < l.length), l[j].2 < n) : firstS l n = none := by
  unfold firstS
  rw [List.find?_eq_none]
  intro x hx
  obtain ⟨j, hj, rfl⟩ := List.mem_iff_getElem.1 hx
  have := h j hj
  simp only [decide_eq_true_iff]
  omega
/-- Just if the largest one is long enough. -/
theorem tk_iff {h : Nat} {T : List Bool} (hh : h ≤ T.length) {n : Int} (hn : 1 ≤ n) : (tkS h T n).2.1 = 0 ↔ n ≤ (largeS (spansS h T) : Int) := by
  have h1 := take_first hh (spans_is hh) (show 1 ≤ n.toNat by omega)
  have h2 := first_iff (l := spansS h T) (show 1 ≤ n.toNat by omega)
  unfold tkS
  rw [if_neg (by omega), h1]
  cases hf : firstS (spansS h T) n.toNat with
  | none =>
    rw [hf] at h2
    simp only [Option.isSome_none, Bool.false_eq_true, false_iff] at h2
    simp only [Option.map_none]
    constructor
    · intro h; cases h
    · intro h; omega
  | some x =>
    rw [hf] at h2
    simp only [Option.isSome_some, true_iff] at h2
    simp only [Option.map_some, true_iff]
    omega
theorem room_tk {h : Nat} {T : List Bool} {i m : Nat} (hh : h ≤ i) (hf : i + m ≤ T.length) (ha : allS T i m false = true) : roomS (spansS h (setS T i m true)) + m = roomS (spansS h T) := by
  rw [room_is (by rw [setS_len hf]; omega), room_is (by omega)]
  exact count_set hf ha h hh
set_option maxHeartbeats 2000000 in
theorem spaceFits_walk (J : SSpec) (n h : Int) (hn : I64 n) (hh : I64 h) (la : Option Addr) (ln lc : Nat) (k : Int) (hk : I64 k) (w : World) (hI : IntsIn w la ln) (hln : ln ≤ maxLen) :
    Calls Try.prog 6 #[.int .i64 n, .int .i64 h, .slice la ln lc, .int .i64 k] w fun e w' => e = .returned (.bool true) ∧ Below w.heap.size w w' := by
  obtain ⟨Post, hPost⟩ : ∃ Post : Ending → World → Prop, Post = fun e w' => e = .returned (.bool true) ∧ Below w.heap.size w w' := ⟨_, rfl⟩
  rw [← hPost]
  have HP : Hid (∀ w', Below w.heap.size w w' → Post (.returned (.bool true)) w') := fun w' h => by rw [hPost]; exact ⟨rfl, h⟩
  clear hPost
  have HI : Hid (IntsIn w la ln) := hI
  have hln' : (ln : Int) ≤ 9223372036854775807 := by unfold maxLen at hln; omega
  clear hI hln
  go_enter Try.func6, Try.ntmps6
  go_wp2_with fail
  refine (awake_s J w).mono ?_
  rintro _ w1 ⟨rfl, hb1⟩
  have Hb1 : Hid (Below w.heap.size w w1) := hb1
  clear hb1
  by_cases hs1 : 300 < n
  · have R := HP.out w1 Hb1.out
    clear HP Hb1
    go_wp2
    exact R
  · by_cases hs2 : (300 : Int) < ln
    · have R := HP.out w1 Hb1.out
      clear HP Hb1
      go_wp2
      exact R
    · by_cases hbad : badNew n h
      · go_wp2_with fail
        refine (J.new_ n h w1 hn hh).mono ?_
        rintro e w2 ⟨hb2, ⟨_, rfl⟩ | ⟨h1, _⟩⟩
        · have R := HP.out w2 (Hb1.out.trans (hb2.mono Hb1.out.size))
          clear HP Hb1 hb2
          go_wp2
          exact R
        · exact absurd hbad h1
      · go_wp2_with fail
        refine (snew J n h w1 hn hh hbad).mono ?_
        rintro _ w2 ⟨g, F2, rfl, hS2⟩
        have H2 : Hid (Sk J F2 w1 w2 g h.toNat (List.replicate n.toNat false)) := hS2
        have hge : 0 ≤ h ∧ h ≤ n ∧ n ≤ 300 := by unfold badNew at hbad; omega
        obtain ⟨hd, hhd⟩ : ∃ hd, hd = h.toNat := ⟨_, rfl⟩
        rw [← hhd] at H2
        have Hle : Hid (hd ≤ n.toNat) := by show _ ≤ _; omega
        clear hS2 hbad hhd
        go_wp2_with fail
        go_loopw [12] (fun v wr => ∃ (i : Nat) (F : Nat → Prop) (T : List Bool), i ≤ ln ∧ v = .int .i64 (i : Int) ∧ Hid (Sk J F w1 wr g hd T ∧ T.length = n.toNat)) (fun v _ => ln - (intOf v).toNat)
        case atStart => exact ⟨0, F2, _, Nat.zero_le _, rfl, H2.out, by rw [List.length_replicate]⟩
        case round =>
          clear H2
          obtain ⟨i, F, T, hi, rfl, H⟩ := hrel
          by_cases hlt : i < ln
          · have hlt' : (i : Int) < ln := by omega
            obtain ⟨b, off, x, rfl, hx, hc⟩ := HI.out i hlt
            have hx1 := hx.1
            have hx2 := hx.2
            have cw : wr.cell? ⟨b, off + i, none⟩ = some (.int .i64 x) := cell_on (Hb1.out.trans (H.out.1.below.mono Hb1.out.size)) hc
            have Hc : Hid (w.cell? ⟨b, off + i, none⟩ = some (.int .i64 x)) := hc
            clear HP hc hx
            go_wp2_with fail
            refine (stake H.out.1 x ⟨hx1, hx2⟩).mono ?_
            rintro _ w3 ⟨rfl, F3, hS3, _⟩
            have H3 : Hid (Sk J F3 w1 w3 g hd (tkS hd T x).2.2 ∧ (tkS hd T x).2.2.length = n.toNat) := ⟨hS3, by rw [tkS_len hd T x]; exact H.out.2⟩
            have cw3 : w3.cell? ⟨b, off + i, none⟩ = some (.int .i64 x) := cell_on (Hb1.out.trans (hS3.below.mono Hb1.out.size)) Hc.out
            clear hS3 H cw Hc
            go_wp2_with fail
            refine (sfree H3.out.1 x 1 ⟨hx1, hx2⟩ (i64s (by decide))).mono ?_
            rintro _ w4 ⟨rfl, F4, hS4, _⟩
            have H4 : Hid (Sk J F4 w1 w4 g hd (doS hd (tkS hd T x).2.2 x 1 true false) ∧ (doS hd (tkS hd T x).2.2 x 1 true false).length = n.toNat) := ⟨hS4, by rw [doS_len]; exact H3.out.2⟩
            clear hS4 H3 cw3
            go_wp2
            go_roundw
            case rel => exact ⟨i + 1, F4, _, by omega, by go_num, H4⟩
            case measure => simp [intOf]; omega
          · obtain rfl : i = ln := by omega
            have hge2 : ¬ (i : Int) < i := by omega
            have hTl : T.length ≤ 300 := by have := H.out.2; omega
            have hhT : hd ≤ T.length := by rw [H.out.2]; exact Hle.out
            have hsb := sp_bd hhT (by omega)
            have Hsb : Hid ((spansS hd T).length ≤ 4096 ∧ (∀ x ∈ spansS hd T, x.1 ≤ 4096 ∧ x.2 ≤ 4096) ∧ roomS (spansS hd T) ≤ 4096) := hsb
            obtain ⟨ms, hms⟩ : ∃ ms, ms = largeS (spansS hd T) := ⟨_, rfl⟩
            obtain ⟨rm, hrm⟩ : ∃ rm, rm = roomS (spansS hd T) := ⟨_, rfl⟩
            have Hms : Hid (largeS (spansS hd T) = ms ∧ roomS (spansS hd T) = rm) := ⟨hms.symm, hrm.symm⟩
            have hrm4 : rm ≤ 4096 := by rw [hrm]; exact hsb.2.2
            clear hms hrm hsb
            go_wp2_with fail
            refine (slarge H.out.1).mono ?_
            rw [Hms.out.1]
            rintro _ wa ⟨rfl, Fa, hSa, _⟩
            have HA : Hid (Sk J Fa w1 wa g hd T) := hSa
            clear hSa H HI
            go_wp2_with fail
            refine (sroom HA.out).mono ?_
            rw [Hms.out.2]
            rintro _ wb ⟨rfl, Fb, hSb, _⟩
            have HB : Hid (Sk J Fb w1 wb g hd T) := hSb
            clear hSb HA
            go_wp2_with fail
            refine (sspans HB.out).mono ?_
            rintro _ w3 ⟨F3, xa, xc, rfl, hS3, _, hO3, hgb3⟩
            have H3 : Hid (Sk J F3 w1 w3 g hd T) := hS3
            obtain ⟨lo, HX3⟩ : ∃ lo, Hid (OwnSp w3 lo xa xc (spansS hd T) ∧ ∀ gb, xa = some ⟨gb, 0, none⟩ → ¬ F3 gb) := ⟨_, hO3, hgb3⟩
            clear hS3 HB hO3 hgb3
            go_wp2_with fail
            refine (stake H3.out k hk).mono ?_
            rintro _ w4 ⟨rfl, F4, hS4, hT4⟩
            have HX4 : Hid (OwnSp w4 lo xa xc (spansS hd T) ∧ ∀ gb, xa = some ⟨gb, 0, none⟩ → ¬ F4 gb) := HX3.out.1.stp hT4 HX3.out.2
            have Hiff : Hid (1 ≤ k → ((tkS hd T k).2.1 = 0 ↔ k ≤ (ms : Int))) := fun h1 => by rw [← Hms.out.1]; exact tk_iff hhT h1
            rcases tk_err hd T k with h0 | ⟨h0, hsame⟩
            · obtain ⟨p, hk1, hp1, hp2, hp3, htk⟩ := tk_ok h0
              have hkm : k ≤ (ms : Int) := (Hiff.out hk1).1 h0
              have Hfst : Hid ((firstS (spansS hd T) k.toNat).map (·.1) = some p) := by
                have h1 := take_first hhT (spans_is hhT) (show 1 ≤ k.toNat by omega)
                show _ = _
                rw [← h1]
                have h2 := htk
                unfold tkS at h2
                rw [if_neg (by omega)] at h2
                cases hx : takeS hd T k.toNat with
                | none => rw [hx] at h2; simp only [Prod.mk.injEq] at h2; omega
                | some q => rw [hx] at h2; simp only [Prod.mk.injEq] at h2; congr 1; omega
              have Hrt : Hid (roomS (spansS hd (setS T p k.toNat true)) + k.toNat = rm) := by have := room_tk hp1 hp2 hp3; rw [Hms.out.2] at this; exact this
              rw [htk] at hS4 ⊢
              have H4 : Hid (Sk J F4 w1 w4 g hd (setS T p k.toNat true)) := hS4
              have hp4 : (p : Int) ≤ 300 := by omega
              have hsl : (spansS hd T).length ≤ 4096 := Hsb.out.1
              clear hS4 hT4 H3 HX3 h0 htk hp3 Hiff
              generalize spansS hd T = L at *
              obtain ⟨q, hq⟩ : ∃ q, q = L.length := ⟨_, rfl⟩
              have Hq : Hid (L.length = q) := hq.symm
              rw [← hq] at hsl ⊢
              have hk1' : ¬ k < 1 := by omega
              clear hq
              go_wp2_with fail
              go_loopw [18] (fun v wr => ∃ (j : Nat), j ≤ q ∧ v = .int .i64 (j : Int) ∧ wr = w4 ∧ Hid (∀ a (ha : a < L.length), a < j → L[a].2 < k.toNat)) (fun v _ => q - (intOf v).toNat)
              case atStart => exact ⟨0, Nat.zero_le _, rfl, rfl, fun a _ h => absurd h (Nat.not_lt_zero _)⟩
              case round =>
                obtain ⟨j, hj, rfl, rfl, HL⟩ := hrel
                by_cases hjq : j < q
                · have hjq' : (j : Int) < q := by omega
                  have hjl : j < L.length := by rw [Hq.out]; exact hjq
                  obtain ⟨xb, rfl, _, _, x0, x1⟩ := HX4.out.1.at hjl
                  have hbd := Hsb.out.2.1 _ (List.getElem_mem hjl)
                  have Hhit : Hid (k.toNat ≤ L[j].2 → L[j].1 = p) := fun hge => by
                    have h1 := first_at hjl HL.out hge
                    have h2 := Hfst.out
                    rw [h1] at h2
                    exact Option.some.inj h2
                  have HLn : Hid (L[j].2 < k.toNat → ∀ a (ha : a < L.length), a < j + 1 → L[a].2 < k.toNat) := fun hs a ha haj => by
                    by_cases e : a = j
                    · subst e; exact hs
                    · exact HL.out a ha (by omega)
                  generalize L[j].1 = f at *
                  generalize L[j].2 = m at *
                  by_cases hge : k ≤ (m : Int)
                  · obtain rfl := Hhit.out (by omega)
                    clear HL HLn Hhit
                    go_wp2_with fail
                    refine (sroom H4.out).mono ?_
                    rintro _ w5 ⟨rfl, F5, hS5, _⟩
                    have R := HP.out w5 (Hb1.out.trans (hS5.below.mono Hb1.out.size))
                    have Hrk : Hid (((roomS (spansS hd (setS T f k.toNat true)) : Nat) : Int) = (rm : Int) - k) := by have := Hrt.out; show _ = _; omega
                    rw [Hrk.out]
                    clear HP hS5 H4 HX4 Hrk Hrt Hfst
                    go_wp2
                    exact R
                  · have HL2 : Hid (∀ a (ha : a < L.length), a < j + 1 → L[a].2 < k.toNat) := HLn.out (by omega)
                    clear HL HLn Hhit HP
                    go_wp2
                    go_roundw
                    case rel => exact ⟨j + 1, by omega, by go_num, trivial, HL2⟩
                    case measure => simp [intOf]; omega
                · exfalso
                  obtain rfl : j = q := by omega
                  have h1 := first_no (n := k.toNat) (fun a ha => HL.out a ha (by rw [Hq.out] at ha; exact ha))
                  have h2 := Hfst.out
                  rw [h1] at h2
                  cases h2
            · rw [hsame] at hS4
              have H4 : Hid (Sk J F4 w1 w4 g hd T) := hS4
              generalize (tkS hd T k).1 = v1 at *
              rcases h0 with ⟨h0, hk0⟩ | ⟨h0, hk1⟩
              · rw [h0]
                clear hS4 hT4 H3 HX3 HX4 Hiff
                go_wp2_with fail
                refine (sroom H4.out).mono ?_
                rw [Hms.out.2]
                rintro _ w5 ⟨rfl, F5, hS5, _⟩
                have R := HP.out w5 (Hb1.out.trans (hS5.below.mono Hb1.out.size))
                clear HP hS5 H4
                go_wp2
                exact R
              · have hkm : ¬ k ≤ (ms : Int) := fun h => by have := (Hiff.out hk1).2 h; omega
                have hk1' : ¬ k < 1 := by omega
                rw [h0]
                clear hS4 hT4 H3 HX3 HX4 Hiff
                go_wp2_with fail
                refine (sroom H4.out).mono ?_
                rw [Hms.out.2]
                rintro _ w5 ⟨rfl, F5, hS5, _⟩
                have R := HP.out w5 (Hb1.out.trans (hS5.below.mono Hb1.out.size))
                clear HP hS5 H4
                go_wp2
                exact R
end Go.Proofs.Ytffhnecdmdmmkaa
