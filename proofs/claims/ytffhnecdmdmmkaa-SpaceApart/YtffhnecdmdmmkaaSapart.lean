/-
  SpaceApart, from what is asked of a space.
-/
import Derived.Test.YtffhnecdmdmmkaaSown
set_option maxRecDepth 20000
namespace Go.Proofs.Ytffhnecdmdmmkaa
open Go.RowKit

theorem room_part (l : List Sp) (j : Nat) : roomS (l.take j) ≤ roomS l := by
  have h : roomS l = roomS (l.take j) + roomS (l.drop j) := by
    unfold roomS
    rw [← List.sum_append, ← List.map_append, List.take_append_drop]
  omega
set_option maxHeartbeats 4000000 in
theorem spaceApart_walk (J : SSpec) (n h : Int) (hn : I64 n) (hh : I64 h) (la : Option Addr) (ln lc : Nat) (w : World) (hI : IntsIn w la ln) (hln : ln ≤ maxLen) :
    Calls Try.prog 5 #[.int .i64 n, .int .i64 h, .slice la ln lc] w fun e w' => e = .returned (.bool true) ∧ Below w.heap.size w w' := by
  obtain ⟨Post, hPost⟩ : ∃ Post : Ending → World → Prop, Post = fun e w' => e = .returned (.bool true) ∧ Below w.heap.size w w' := ⟨_, rfl⟩
  rw [← hPost]
  have HP : Hid (∀ w', Below w.heap.size w w' → Post (.returned (.bool true)) w') := fun w' h => by rw [hPost]; exact ⟨rfl, h⟩
  clear hPost
  have HI : Hid (IntsIn w la ln) := hI
  have hln' : (ln : Int) ≤ 9223372036854775807 := by unfold maxLen at hln; omega
  clear hI hln
  go_enter Try.func5, Try.ntmps5
  go_wp2_with fail
  refine (awake_s J w).mono ?_
  rintro _ w1 ⟨rfl, hb1⟩
  have Hb1 : Hid (Below w.heap.size w w1) := hb1
  clear hb1
  by_cases hs1 : 300 < n
  · have R := HP.out w1 Hb1.out
    clear HP Hb1
    go_wp2
    exact R
  by_cases hs2 : (300 : Int) < ln
  · have R := HP.out w1 Hb1.out
    clear HP Hb1
    go_wp2
    exact R
  by_cases hbad : badNew n h
  · go_wp2_with fail
    refine (J.new_ n h w1 hn hh).mono ?_
    rintro e w2 ⟨hb2, ⟨_, rfl⟩ | ⟨h1, _⟩⟩
    · have R := HP.out w2 (Hb1.out.trans (hb2.mono Hb1.out.size))
      clear HP Hb1 hb2
      go_wp2
      exact R
    · exact absurd hbad h1
  go_wp2_with fail
  refine (snew J n h w1 hn hh hbad).mono ?_
  rintro _ w2 ⟨g, F2, rfl, hS2⟩
  have H2 : Hid (Sk J F2 w1 w2 g h.toNat (List.replicate n.toNat false)) := hS2
  have hge : 0 ≤ h ∧ h ≤ n ∧ n ≤ 300 := by unfold badNew at hbad; omega
  obtain ⟨N, rfl⟩ := Int.eq_ofNat_of_zero_le (show 0 ≤ n by omega)
  obtain ⟨hd, rfl⟩ := Int.eq_ofNat_of_zero_le hge.1
  rw [Int.toNat_natCast, Int.toNat_natCast] at H2
  clear hS2 hbad
  obtain ⟨i3, hi3, hz0, hz1, hz2⟩ := info_parts info3
  go_wp2_with (at_make; refine wpList_make_full _ rfl _ _ 43 rfl w2.heap.size 3 i3 _ 1 Try.underlying43 hi3 hz0 hz1 .i64 .i64 (N : Int) (N : Int) N rfl rfl rfl rfl (by rw [hz2]; omega) (by unfold maxLen; omega) (Nat.le_refl _) ?_; intro w3 hrow3 hg3)
  have H3 : Hid (Sa J F2 w1 w3 g hd w2.heap.size (List.replicate N false) (List.replicate N 0)) := by
    have hrow := own_full hrow3
    have hb3 : Below w2.heap.size w2 w3 := (Below.refl _ _).grown hg3 (Nat.le_refl _) (by simp)
    refine ⟨H2.out.on hb3, ?_, fun hf => by have := (H2.out.lt _ hf).2; omega, H2.out.below.size⟩
    rw [hrow]
    congr 2
    simp [ivals, madeCells, Value.cells, Nat.mod_one]
    rw [List.map_const', List.length_range, List.toArray_replicate]
  clear H2 hrow3 hg3 hz0 hz1 hz2 hi3
  generalize w2.heap.size = ob at *
  go_wp2_with fail
  go_loopw [11] (fun v wr => ∃ (i : Nat) (F : Nat → Prop) (T : List Bool) (O : List Int), i ≤ ln ∧ v = .int .i64 (i : Int) ∧ Hid (Sa J F w1 wr g hd ob T O ∧ Own hd T O ∧ T.length = N)) (fun v _ => ln - (intOf v).toNat)
  case atStart => exact ⟨0, F2, _, _, Nat.zero_le _, rfl, H3.out, Own.new _ _, by rw [List.length_replicate]⟩
  case round =>
    clear H3
    obtain ⟨i, F, T, O, hi, rfl, H⟩ := hrel
    obtain ⟨wq, hwq⟩ : ∃ wq, wq = wr := ⟨_, rfl⟩
    subst hwq
    by_cases hlt : i < ln
    · have hlt' : (i : Int) < ln := by omega
      obtain ⟨b, off, x, rfl, hx, hc⟩ := HI.out i hlt
      have hx1 := hx.1
      have hx2 := hx.2
      have HW : Hid (∀ {F' : Nat → Prop} {w' : World} {T' : List Bool} {O' : List Int}, Sa J F' w1 w' g hd ob T' O' → w'.cell? ⟨b, off + i, none⟩ = some (.int .i64 x)) := fun H' => cell_on (Hb1.out.trans (H'.sk.below.mono Hb1.out.size)) hc
      have cw := HW.out H.out.1
      clear HP hc hx
      by_cases hx3 : x < -300
      · clear HW
        go_wp2
        go_roundw
        case rel => exact ⟨i + 1, F, T, O, by omega, by go_num, H⟩
        case measure => simp [intOf]; omega
      by_cases hx0 : x < 0
      · go_wp2_with fail
        go_loopw [12] (fun v wr => ∃ (k : Nat) (F : Nat → Prop) (T : List Bool) (O : List Int), k ≤ N ∧ v = .int .i64 (k : Int) ∧ Hid (Sa J F w1 wr g hd ob T O ∧ Own hd T O ∧ T.length = N)) (fun v _ => N - (intOf v).toNat)
        case atStart => exact ⟨0, F, T, O, Nat.zero_le _, rfl, H⟩
        case round =>
          clear H cw
          obtain ⟨k, Fk, Tk, Ok, hk, rfl, Hk⟩ := hrel
          have ck := HW.out Hk.out.1
          by_cases hkN : k < N
          · have hkN' : (k : Int) < N := by omega
            have hkO : k < Ok.length := by rw [Hk.out.2.1.len, Hk.out.2.2]; exact hkN
            have hat := Hk.out.1.at hkO
            have hfr := Hk.out.1.frozen k
            have HD : Hid (∀ m, Sa J Fk w1 (wr.drewN m) g hd ob Tk Ok ∧ Own hd Tk Ok ∧ Tk.length = N) := fun m => ⟨Hk.out.1.drewN m, Hk.out.2⟩
            have Hfree : Hid (Ok.getD k 0 ≠ 0 → erS hd Tk (k : Int) 1 true = 0 ∧ Own hd (doS hd Tk (k : Int) 1 true false) (Ok.set k 0) ∧ (doS hd Tk (k : Int) 1 true false).length = N) := fun ho => by
              have h1 := Hk.out.2.1.free (k := k) (by rw [Hk.out.2.2]; exact hkN) ho
              exact ⟨h1.1, h1.2, by rw [doS_len]; exact Hk.out.2.2⟩
            have hob := Hk.out.2.1.bd k
            clear Hk
            generalize Ok.getD k 0 = o at *
            by_cases ho : o = -x
            · have hfr2 := Hfree.out (by omega)
              subst ho
              clear Hfree
              go_wp2_with fail
              go_big_quiet (fail)
              go_wp2_with fail
              refine (afree (HD.out nq).1 (k : Int) 1 ⟨by omega, by omega⟩ (i64s (by decide))).mono ?_
              rw [hfr2.1]
              rintro _ w4 ⟨rfl, F4, hS4⟩
              have hat4 := hS4.at hkO
              have hfr4 := hS4.frozen k
              have H5 : Hid (Sa J F4 w1 (w4.setCell ⟨ob, k, none⟩ (.int .i64 0)) g hd ob (doS hd Tk (k : Int) 1 true false) (Ok.set k 0) ∧ Own hd (doS hd Tk (k : Int) 1 true false) (Ok.set k 0) ∧ (doS hd Tk (k : Int) 1 true false).length = N) := ⟨hS4.set k 0, hfr2.2⟩
              clear hS4 HD hfr2 hat hfr ck
              generalize Ok.getD k 0 = o4 at *
              go_wp2
              go_roundw
              case rel => exact ⟨k + 1, F4, _, _, by omega, by go_num, H5⟩
              case measure => simp [intOf]; omega
            · have d1 : (o == -x) = false := by simp; omega
              clear Hfree
              go_wp2_with fail
              go_big_quiet (fail)
              go_wp2
              go_roundw
              case rel => exact ⟨k + 1, Fk, Tk, Ok, by omega, by go_num, HD.out _⟩
              case measure => simp [intOf]; omega
          · obtain rfl : k = N := by omega
            have hge3 : ¬ (k : Int) < k := by omega
            clear ck HW
            go_wp2
            go_roundw
            case rel => exact ⟨i + 1, Fk, Tk, Ok, by omega, by go_num, Hk⟩
            case measure => simp [intOf]; omega
      · go_wp2_with fail
        refine (atake H.out.1 x ⟨hx1, hx2⟩).mono ?_
        rintro _ w4 ⟨rfl, F4, hS4⟩
        have c4 := HW.out hS4
        rcases tk_err hd T x with h0 | ⟨h0, hsame⟩
        · obtain ⟨p, hp0, hp1, hp2, hp3, htk⟩ := tk_ok h0
          obtain ⟨m, rfl⟩ := Int.eq_ofNat_of_zero_le (show 0 ≤ x by omega)
          rw [htk] at hS4 ⊢
          rw [Int.toNat_natCast] at hS4 hp2 hp3
          have hpN : p + m ≤ N := by rw [← H.out.2.2]; exact hp2
          have H4 : Hid (Sa J F4 w1 w4 g hd ob (setS T p m true) (setO O p ((i : Int) + 1) 0)) := hS4
          have HZ : Hid (∀ j, j < m → (setO O p ((i : Int) + 1) j).getD (p + j) 0 = 0 ∧ p + j < (setO O p ((i : Int) + 1) j).length) := fun j hj => ⟨H.out.2.1.zero hp2 hp3 hj _, by rw [setO_len, H.out.2.1.len]; omega⟩
          have HE : Hid (Own hd (setS T p m true) (setO O p ((i : Int) + 1) m) ∧ (setS T p m true).length = N) := ⟨H.out.2.1.take hp1 hp2 ⟨by omega, by omega⟩, by rw [setS_len hp2]; exact H.out.2.2⟩
          have d1 : ¬ (p : Int) < hd := by omega
          have d2 : ¬ (m : Int) < 1 := by omega
          have d3 : ¬ (N : Int) - m < p := by omega
          clear hS4 h0 htk cw hp3 hp2 H
          go_wp2_with fail
          go_loopw [16] (fun v wr => ∃ (j : Nat), j ≤ m ∧ v = .int .i64 ((p : Int) + j) ∧ Hid (Sa J F4 w1 wr g hd ob (setS T p m true) (setO O p ((i : Int) + 1) j))) (fun v _ => p + m - (intOf v).toNat)
          case atStart => exact ⟨0, Nat.zero_le _, by go_num, H4⟩
          case round =>
            clear H4 c4
            obtain ⟨j, hj, rfl, Hj⟩ := hrel
            have ck := HW.out Hj.out
            by_cases hjm : j < m
            · have hjm' : (p : Int) + j < (p : Int) + m := by omega
              have hz := HZ.out j hjm
              have hat := Hj.out.at hz.2
              rw [hz.1] at hat
              have hfr := Hj.out.frozen (p + j)
              have H5 : Hid (Sa J F4 w1 (wr.setCell ⟨ob, p + j, none⟩ (.int .i64 ((i : Int) + 1))) g hd ob (setS T p m true) (setO O p ((i : Int) + 1) (j + 1))) := Hj.out.set (p + j) _
              have hpj : (p : Int) + j < N := by omega
              clear Hj hz HW
              go_wp2
              go_roundw
              case rel => exact ⟨j + 1, by omega, by go_num, H5⟩
              case measure => simp [intOf]; omega
            · obtain rfl : j = m := by omega
              have hge3 : ¬ (p : Int) + j < (p : Int) + j := by omega
              clear HW
              go_wp2
              go_roundw
              case rel => exact ⟨i + 1, F4, _, _, by omega, by go_num, Hj.out, HE.out⟩
              case measure => simp [intOf]; omega
        · rw [hsame] at hS4
          have H4 : Hid (Sa J F4 w1 w4 g hd ob T O ∧ Own hd T O ∧ T.length = N) := ⟨hS4, H.out.2⟩
          have hne : ((tkS hd T x).2.1 == 0) = false := by rcases h0 with h | h <;> (rw [h.1]; rfl)
          generalize (tkS hd T x).1 = v1 at *
          generalize (tkS hd T x).2.1 = v2 at *
          clear hS4 HW cw H
          go_wp2
          go_roundw
          case rel => exact ⟨i + 1, F4, T, O, by omega, by go_num, H4⟩
          case measure => simp [intOf]; omega
    · obtain rfl : i = ln := by omega
      have hge2 : ¬ (i : Int) < i := by omega
      have hhT : hd ≤ T.length := by rw [H.out.2.2]; omega
      have hsb := sp_bd hhT (by rw [H.out.2.2]; omega)
      go_wp2_with fail
      refine (aspans H.out.1).mono ?_
      rintro _ w4 ⟨F4, xa, xc, lo, rfl, hS4, hX4⟩
      have HS4 : Hid (Sa J F4 w1 w4 g hd ob T O) := hS4
      have HX4 : Hid (OwnSp w4 lo xa xc (spansS hd T)) := hX4
      have Hlen : Hid (O.length = N) := by show _ = _; rw [H.out.2.1.len, H.out.2.2]
      have Hsp : Hid (∀ (j : Nat) (hj : j < (spansS hd T).length) (k : Nat), k < (spansS hd T)[j].2 → hd ≤ (spansS hd T)[j].1 + k ∧ (spansS hd T)[j].1 + k < N ∧ O.getD ((spansS hd T)[j].1 + k) 0 = 0) := fun j hj k hk => by
        have := H.out.2.1.span hhT (List.getElem_mem hj) hk
        rw [H.out.2.2] at this
        exact this
      have Hsb : Hid ((spansS hd T).length ≤ 4096 ∧ (∀ x ∈ spansS hd T, x.1 ≤ 4096 ∧ x.2 ≤ 4096) ∧ roomS (spansS hd T) ≤ 4096) := hsb
      have Hall : Hid (roomS (spansS hd T) + cntO hd O (N - hd) = N - hd) := by
        have := H.out.2.1.whole hhT
        rw [H.out.2.2] at this
        exact this
      have R := HP.out w4 (Hb1.out.trans (hS4.sk.below.mono Hb1.out.size))
      have HR : Hid (Post (.returned (.bool true)) w4) := R
      clear hS4 hX4 H hsb hhT R HP HI Hb1
      generalize spansS hd T = L at *
      obtain ⟨q, hq⟩ : ∃ q, q = L.length := ⟨_, rfl⟩
      have Hq : Hid (L.length = q) := hq.symm
      have hsl : q ≤ 4096 := by rw [hq]; exact Hsb.out.1
      rw [← hq]
      clear hq
      go_wp2_with fail
      go_loopw [18, 19] (fun v18 v19 wr => ∃ (j f : Nat), j ≤ q ∧ v18 = .int .i64 (f : Int) ∧ v19 = .int .i64 (j : Int) ∧ wr = w4 ∧ Hid (f = roomS (L.take j))) (fun _ v19 _ => q - (intOf v19).toNat)
      case atStart => exact ⟨0, 0, Nat.zero_le _, rfl, rfl, rfl, by show _ = _; simp [roomS]⟩
      case round =>
        obtain ⟨j, f, hj, rfl, rfl, hw, Hf⟩ := hrel
        subst hw
        have hf4 : f ≤ 4096 := by have h1 := Hf.out; have h2 := room_part L j; have h3 := Hsb.out.2.2; omega
        by_cases hjq : j < q
        · have hjq' : (j : Int) < q := by omega
          have hjl : j < L.length := by rw [Hq.out]; exact hjq
          obtain ⟨xb, rfl, _, _, x0, x1⟩ := HX4.out.at hjl
          have hbd := Hsb.out.2.1 _ (List.getElem_mem hjl)
          have hnx := room_take hjl
          rw [← Hf.out] at hnx
          have Hnx : Hid (roomS (L.take (j + 1)) = f + L[j].2) := hnx
          have Hk : Hid (∀ k, k < L[j].2 → hd ≤ L[j].1 + k ∧ L[j].1 + k < N ∧ O.getD (L[j].1 + k) 0 = 0) := Hsp.out j hjl
          clear hnx Hsp
          generalize L[j].1 = sf at *
          generalize L[j].2 = sm at *
          go_wp2_with fail
          go_loopw [18, 20] (fun v18 v20 wq => ∃ (k : Nat), k ≤ sm ∧ v18 = .int .i64 ((f : Int) + k) ∧ v20 = .int .i64 (k : Int) ∧ wq = wr) (fun _ v20 _ => sm - (intOf v20).toNat)
          case atStart => exact ⟨0, Nat.zero_le _, by go_num, rfl, rfl⟩
          case round =>
            obtain ⟨k, hk, rfl, rfl, hw⟩ := hrel
            subst hw
            by_cases hkm : k < sm
            · have hkm' : (k : Int) < sm := by omega
              have hz := Hk.out k hkm
              have hat := HS4.out.at (i := sf + k) (by rw [Hlen.out]; exact hz.2.1)
              rw [hz.2.2] at hat
              have d1 : ¬ (sf : Int) + k < hd := by omega
              have d2 : ¬ (N : Int) ≤ (sf : Int) + k := by omega
              have d3 : (sf : Int) + k < N := by omega
              clear hz
              go_wp2
              go_roundw
              case rel => exact ⟨k + 1, by omega, by go_num, by go_num, by first | trivial | rfl⟩
              case measure => simp [intOf]; omega
            · obtain rfl : k = sm := by omega
              have hge3 : ¬ (k : Int) < k := by omega
              go_wp2
              go_roundw
              case rel => exact ⟨j + 1, f + k, by omega, by go_num, by go_num, by first | trivial | rfl, Hnx.out.symm⟩
              case measure => simp [intOf]; omega
        · obtain rfl : j = q := by omega
          have hge3 : ¬ (j : Int) < j := by omega
          have hfe : f + cntO hd O (N - hd) = N - hd := by
            have h1 := Hf.out
            rw [List.take_of_length_le (by rw [Hq.out]; exact Nat.le_refl _)] at h1
            rw [h1]
            exact Hall.out
          have Hfe : Hid (f + cntO hd O (N - hd) = N - hd) := hfe
          clear hfe Hf Hall Hsp HX4
          go_wp2_with fail
          go_loopw [18, 22] (fun v18 v22 wq => ∃ (t c : Nat), hd + t ≤ N ∧ v18 = .int .i64 ((f : Int) + c) ∧ v22 = .int .i64 ((hd : Int) + t) ∧ wq = wr ∧ Hid (c = cntO hd O t)) (fun _ v22 _ => N - (intOf v22).toNat)
          case atStart => exact ⟨0, 0, by omega, by go_num, by go_num, rfl, rfl⟩
          case round =>
            obtain ⟨t, c, ht, rfl, rfl, hw, Hc⟩ := hrel
            subst hw
            have hc : c ≤ t := by rw [Hc.out]; exact cntO_le _ _ _
            by_cases htN : hd + t < N
            · have htN' : (hd : Int) + t < N := by omega
              have hat := HS4.out.at (i := hd + t) (by rw [Hlen.out]; exact htN)
              have Hnx : Hid (cntO hd O (t + 1) = c + if O.getD (hd + t) 0 = 0 then 0 else 1) := by show _ = _; rw [cntO, ← Hc.out]
              clear Hc
              generalize O.getD (hd + t) 0 = o at *
              by_cases ho : o = 0
              · subst ho
                have H5 : Hid (c = cntO hd O (t + 1)) := by show _ = _; rw [Hnx.out, if_pos rfl, Nat.add_zero]
                clear Hnx
                go_wp2
                go_roundw
                case rel => exact ⟨t + 1, c, by omega, by go_num, by go_num, by first | trivial | rfl, H5⟩
                case measure => simp [intOf]; omega
              · have d1 : (o == 0) = false := by simp; exact ho
                have H5 : Hid (c + 1 = cntO hd O (t + 1)) := by show _ = _; rw [Hnx.out, if_neg ho]
                clear Hnx
                go_wp2
                go_roundw
                case rel => exact ⟨t + 1, c + 1, by omega, by go_num, by go_num, by first | trivial | rfl, H5⟩
                case measure => simp [intOf]; omega
            · have htN2 : t = N - hd := by omega
              have hge4 : ¬ (hd : Int) + t < N := by omega
              have hfin : f + c = N - hd := by rw [Hc.out, htN2]; exact Hfe.out
              have dfin : ((f : Int) + c == (N : Int) - hd) = true := by simp; omega
              have R := HR.out
              clear Hc Hfe HR HS4
              go_wp2
              exact R
end Go.Proofs.Ytffhnecdmdmmkaa
