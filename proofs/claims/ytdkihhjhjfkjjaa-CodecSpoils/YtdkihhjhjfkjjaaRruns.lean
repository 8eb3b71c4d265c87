/-
  The document's runs.
-/
import Derived.Test.YtdkihhjhjfkjjaaRbase
namespace Go.Proofs.Ytdkihhjhjfkjjaa
open Go.RowKit

/-- How long a slice is. -/
def lenV : Value → Nat
  | .slice _ n _ => n
  | _ => 0
set_option maxRecDepth 100000 in
set_option maxHeartbeats 4000000 in
theorem rruns_c (ab ob nb cb : Nat) (bs : List Int) (al : Option Addr) (nl cl : Nat) (l : List Int) (w : World) (hB : Bytes w (some ⟨ab, ob, none⟩) nb bs) (hcb : nb ≤ cb) (hnb : nb ≤ 1000000) (hL : Bytes w al nl l) :
    Calls Try.prog 35 #[.slice (some ⟨ab, ob, none⟩) nb cb, .slice al nl cl] w fun e w' => Below w.heap.size w w' ∧ (((runsD l 32768 bs).1 = 0 ∧ ∃ a c, e = .returned (.tuple #[.slice a 32768 c, .int .i64 0]) ∧ Own w' w.heap.size a c (runsD l 32768 bs).2) ∨
      ((runsD l 32768 bs).1 ≠ 0 ∧ e = .returned (.tuple #[.slice none 0 0, .int .i64 (runsD l 32768 bs).1]))) := by
  obtain ⟨D, hD⟩ : ∃ D, D = runsD l 32768 bs := ⟨_, rfl⟩
  rw [← hD]
  have HD : Hid (comb [] (runsD l 32768 bs) = D) := by show _ = _; rw [comb_nil, hD]
  have HL : Hid (Bytes w al nl l) := hL
  have HB0 : Hid (Bytes w (some ⟨ab, ob, none⟩) nb bs) := hB
  have hll := hL.n
  have HNB : Hid (nb ≤ 1000000) := hnb
  clear hD hB hL hnb
  go_enter Try.func35, Try.ntmps35
  go_wp2
  go_loopw [0, 6] (fun v0 v6 wr => ∃ (o1 n1 c1 : Nat) (a2 : Option Addr) (c2 : Nat) (rest out : List Int), v0 = .slice (some ⟨ab, o1, none⟩) n1 c1 ∧ n1 ≤ c1 ∧ n1 ≤ nb ∧ v6 = .slice a2 out.length c2 ∧ out.length ≤ 32768 ∧
      Hid (Bytes w (some ⟨ab, o1, none⟩) n1 rest) ∧ Hid (Own wr w.heap.size a2 c2 out) ∧ Below w.heap.size w wr ∧ w.heap.size ≤ wr.heap.size ∧ Hid (comb out (runsD l (32768 - out.length) rest) = D)) (fun _ v6 _ => 32768 - lenV v6)
  case atStart => exact ⟨ob, nb, cb, none, 0, bs, [], rfl, hcb, Nat.le_refl _, rfl, by simp, HB0, Own.nil _ _, Below.refl _ _, Nat.le_refl _, HD⟩
  case round =>
    obtain ⟨o1, n1, c1, a2, c2, rest, out, rfl, hc1, hn1, rfl, hout, HB, HO, hb, hsz, HC⟩ := hrel
    clear HD HB0
    obtain ⟨A, hA⟩ : ∃ A, A = out.length := ⟨_, rfl⟩
    rw [← hA] at hout ⊢
    have HA : Hid (out.length = A) := hA.symm
    clear hA
    have hrl := HB.out.n
    have Hbyte : Hid (∀ z ∈ rest, 0 ≤ z ∧ z ≤ 255) := HB.out.fit
    by_cases hlt : A < 32768
    · have hlt' : (A : Int) < 32768 := by omega
      obtain ⟨Nd, hNd⟩ : ∃ Nd : Nat, (32768 : Int) - (A : Int) = (Nd : Int) := ⟨32768 - A, by omega⟩
      have HNd : Hid (32768 - A = Nd) := by show _ = _; omega
      have hneed : Hid (Nd ≠ 0) := by show _ ≠ _; omega
      have HC' : Hid (comb out (runsD l Nd rest) = D) := by show _ = _; rw [← HNd.out, ← HA.out]; exact HC.out
      clear HC
      by_cases h0 : n1 = 0
      · subst h0
        have e : D = (3, []) := by rw [← HC'.out, List.eq_nil_of_length_eq_zero hrl, runsD_short l _ hneed.out]; rfl
        subst e
        clear HC' HB HO HL Hbyte HA
        go_wp2
        go_ret2
        exact ⟨hb, rfl⟩
      · have hne : Hid (rest ≠ []) := by intro e; subst e; simp at hrl; omega
        have h0' : ((n1 : Int) == 0) = false := by simp [h0]
        obtain ⟨g0, g1, g2, g3, g4⟩ := getL_in Hbyte.out
        have hget := fun w (h : Bytes w (some ⟨ab, o1, none⟩) n1 rest) => rget_any (some ⟨ab, o1, none⟩) n1 c1 rest w (by have := HNB.out; omega) h
        obtain ⟨G, hG⟩ := Int.eq_ofNat_of_zero_le g0
        obtain ⟨M, hM⟩ := Int.eq_ofNat_of_zero_le g2
        have HF : Hid (((M : Int) = 0 ∨ (G : Int) < 1 ∨ (Nd : Int) < G) → D = (4, [])) := fun hg => by
          rw [← HC'.out, runsD_form l _ rest hneed.out hne.out (by rw [hG, hM]; exact hg)]; rfl
        simp only [hG, hM] at hget
        have Hget : Hid (∀ w, Bytes w (some ⟨ab, o1, none⟩) n1 rest → Calls Try.prog 46 #[.slice (some ⟨ab, o1, none⟩) n1 c1] w fun e w' => e = .returned (.tuple #[.int .i64 (G : Int), .int .i64 (M : Int)]) ∧ w' = w) := hget
        clear hget
        rw [hG] at g1
        rw [hM] at g3 g4
        have HMn : Hid (M ≤ n1 ∧ M ≤ 5) := ⟨by omega, by omega⟩
        have HG1 : Hid (G ≤ 2147483647) := by show _ ≤ _; omega
        clear h0 hrl g1 g3 g4
        have HGM : Hid ((getL rest).1 = (G : Int) ∧ (getL rest).2 = (M : Int)) := ⟨hG, hM⟩
        clear g0 g2 hG hM
        have HBr : Hid (Bytes wr (some ⟨ab, o1, none⟩) n1 rest) := HB.out.later hb
        go_wp2_with fail
        refine (Hget.out wr HBr.out).mono ?_
        rintro _ w2 ⟨rfl, hw⟩
        rw [hw]
        clear hw w2 Hget HBr
        by_cases hm : M = 0
        · subst hm
          have e : D = (4, []) := HF.out (Or.inl rfl)
          subst e
          clear HF HC' HB HO HL Hbyte HA HGM
          go_wp2
          go_ret2
          exact ⟨hb, rfl⟩
        · have hm' : ((M : Int) == 0) = false := by simp [hm]
          by_cases hg : G = 0
          · subst hg
            have e : D = (4, []) := HF.out (Or.inr (Or.inl (by omega)))
            subst e
            clear HF HC' HB HO HL Hbyte HA HGM
            go_wp2
            go_ret2
            exact ⟨hb, rfl⟩
          · have hg' : ((G : Int) == 0) = false := by simp [hg]
            by_cases hgr : Nd < G
            · have e : D = (4, []) := HF.out (Or.inr (Or.inr (by omega)))
              have hgr' : (Nd : Int) < G := by omega
              subst e
              clear HF HC' HB HO HL Hbyte HA HGM hm hg
              go_wp2
              go_ret2
              exact ⟨hb, rfl⟩
            · have hgr' : ¬ (Nd : Int) < G := by omega
              have HX : Hid (¬ ((getL rest).2 = 0 ∨ (getL rest).1 < 1 ∨ (Nd : Int) < (getL rest).1)) := by
                show ¬ _
                rw [HGM.out.1, HGM.out.2]
                omega
              have hMn : M ≤ n1 := HMn.out.1
              obtain ⟨o2, hsl, ho2⟩ := slice_from ab o1 n1 c1 M hMn
              have HB2 : Hid (Bytes w (some ⟨ab, o2, none⟩) (n1 - M) (rest.drop M)) := HB.out.from hMn hc1 ho2
              have HMt : Hid ((getL rest).2.toNat = M ∧ (getL rest).1.toNat = G) := ⟨by rw [HGM.out.2, Int.toNat_natCast], by rw [HGM.out.1, Int.toNat_natCast]⟩
              clear HF HB HGM hm hg ho2
              by_cases hz : n1 = M
              · subst hz
                have e : D = (3, []) := by
                  rw [← HC'.out, runsD_cut l _ rest hneed.out hne.out HX.out (by rw [HMt.out.1]; exact List.eq_nil_of_length_eq_zero (by rw [HB2.out.n, Nat.sub_self]))]
                  rfl
                subst e
                rw [Nat.sub_self] at hsl
                clear HC' HB2 HO HL Hbyte HA HMt HX hMn HMn
                go_wp2
                go_ret2
                exact ⟨hb, rfl⟩
              · obtain ⟨n2, hn2⟩ : ∃ n2 : Nat, n1 - M = n2 := ⟨_, rfl⟩
                obtain ⟨c3, hc3⟩ : ∃ c3 : Nat, c1 - M = c3 := ⟨_, rfl⟩
                rw [hn2, hc3] at hsl
                have hn2p : 0 < n2 := by omega
                have hn2c : n2 ≤ c3 := by omega
                have hn2n : n2 ≤ nb := by omega
                have h2' : ((n2 : Int) == 0) = false := by simp; omega
                have HB3 : Hid (Bytes w (some ⟨ab, o2, none⟩) n2 (rest.drop M)) := by rw [← hn2]; exact HB2.out
                clear hn2 hc3 hz hMn HMn HB2 hc1 hn1
                rcases hd : rest.drop M with _ | ⟨pz, r⟩
                · rw [hd] at HB3
                  have := HB3.out.n
                  simp at this
                  omega
                · have HB4 : Hid (Bytes w (some ⟨ab, o2, none⟩) n2 (pz :: r)) := by rw [← hd]; exact HB3.out
                  have Hd : Hid (rest.drop (getL rest).2.toNat = pz :: r) := by show _ = _; rw [HMt.out.1]; exact hd
                  obtain ⟨p0, p1⟩ := HB4.out.fit pz (List.mem_cons_self ..)
                  obtain ⟨P, rfl⟩ := Int.eq_ofNat_of_zero_le p0
                  have hcell : ∀ w', Below w.heap.size w w' → w'.cell? ⟨ab, o2, none⟩ = some (.int .u8 (P : Int)) := fun w' hb' => by
                    obtain ⟨b', o', z, e, hc, _, _, hk, hz⟩ := (HB4.out.later hb').get 0 hn2p
                    cases e
                    rw [hz] at hc
                    exact hc
                  have Hcell : Hid (∀ w', Below w.heap.size w w' → w'.cell? ⟨ab, o2, none⟩ = some (.int .u8 (P : Int))) := hcell
                  have hc0 := hcell wr hb
                  clear hcell HB3 hd
                  by_cases hfar : nl ≤ P
                  · have hfar' : (nl : Int) ≤ P := by omega
                    have e : D = (4, []) := by
                      rw [← HC'.out, runsD_far l _ rest hneed.out hne.out HX.out Hd.out (by rw [hll]; exact hfar')]
                      rfl
                    subst e
                    clear HC' HB4 HO HL Hbyte HA HMt HX Hd Hcell
                    go_wp2
                    go_ret2
                    exact ⟨hb, rfl⟩
                  · have hfar' : ¬ (nl : Int) ≤ P := by omega
                    obtain ⟨bl, ol, x, rfl, _, x0, x1, hPl, hxe⟩ := HL.out.get P (by omega)
                    have Hlc : Hid (∀ w', Below w.heap.size w w' → w'.cell? ⟨bl, ol + P, none⟩ = some (.int .u8 x)) := fun w' hb' => by
                      obtain ⟨b', o', z, e, hc, _, _, hk, hz⟩ := (HL.out.later hb').get P (by omega)
                      cases e
                      rw [hz, ← hxe] at hc
                      exact hc
                    have HE : Hid (comb (out ++ List.replicate G x) (runsD l (Nd - G) r) = D) := by
                      show _ = _
                      rw [← comb_comb, ← HC'.out, runsD_go l _ rest hneed.out hne.out HX.out Hd.out (by rw [hll]; exact hfar'), HMt.out.2, Int.toNat_natCast, hxe, List.getD_eq_getElem?_getD, List.getElem?_eq_getElem hPl]
                      rfl
                    have HGN : Hid (G ≤ Nd ∧ 1 ≤ G) := by
                      have h1 := HX.out
                      rw [not_or, not_or] at h1
                      refine ⟨by omega, ?_⟩
                      have h2 := HMt.out.2
                      omega
                    have Hx : Hid (0 ≤ x ∧ x ≤ 255) := ⟨x0, x1⟩
                    clear HC' HX Hd HMt hxe Hbyte hne hneed hPl
                    go_wp2
                    go_loopw [6, 9] (fun v6 j wr => ∃ (N : Nat) (a3 : Option Addr) (c4 : Nat), N ≤ G ∧ j = .int .i64 (N : Int) ∧ v6 = .slice a3 (A + N) c4 ∧ Hid (Own wr w.heap.size a3 c4 (out ++ List.replicate N x)) ∧ Below w.heap.size w wr ∧ w.heap.size ≤ wr.heap.size) (fun _ j _ => G - (intOf j).toNat)
                    case atStart => exact ⟨0, a2, c2, Nat.zero_le _, rfl, rfl, (show Own _ _ _ _ _ by simpa using HO.out), hb, hsz⟩
                    case round =>
                      obtain ⟨N, a3, c4, hN, rfl, rfl, HO5, hb5, hs5⟩ := hrel
                      clear HO hb hsz hc0
                      have hc0 := Hcell.out wr hb5
                      have hcl := Hlc.out wr hb5
                      by_cases hlt2 : N < G
                      · have hlt2' : (N : Int) < G := by omega
                        have HL5 : Hid ((out ++ List.replicate N x).length = A + N) := by show _ = _; rw [List.length_append, List.length_replicate, HA.out]
                        have HO6 : Hid (Own (wr.alloc (.cells #[.int .u8 x] 5)) w.heap.size a3 c4 (out ++ List.replicate N x)) := HO5.out.later ((Below.refl _ _).alloc (Nat.le_refl _) _)
                        have HB6 : Hid _ := oneByte wr x Hx.out
                        have HA6 : Hid _ := belowAlloc hb5 hs5 (.cells #[.int .u8 x] 5)
                        have HAN : Hid (A + N + 1 ≤ 140737488355328) := by show _ ≤ _; have := HGN.out; have := HNd.out; omega
                        go_upto_region 16 with fail
                        go_wp2_with (at_builtin; refine wpList_append_bytes rfl (.tmp 52) (.tmp 60) rfl w.heap.size a3 (A + N) c4 (out ++ List.replicate N x) HL5.out rfl HO6.out _ 1 1 [x] rfl HB6.out (fun h => by cases h) HAN.out w HA6.out.1 HA6.out.2 ?_; intro a7 c7 w7 HO7 hb7 hs7)
                        go_roundw
                        case rel =>
                          refine ⟨N + 1, a7, c7, by omega, by have := HG1.out; go_num, by simp [Nat.add_assoc], ?_, hb7, hs7⟩
                          show Own _ _ _ _ _
                          rw [List.replicate_succ', ← List.append_assoc]
                          exact HO7.out
                        case measure => simp [intOf]; omega
                      · obtain rfl : N = G := by omega
                        obtain ⟨o5, hsl5, ho5⟩ := slice_from ab o2 n2 c3 1 (by omega)
                        have HB5 : Hid (Bytes w (some ⟨ab, o5, none⟩) (n2 - 1) r) := HB4.out.from (by omega) hn2c ho5
                        have hlt2' : ¬ (N : Int) < N := by omega
                        clear Hcell Hlc hc0 hcl hsl ho5
                        have hsl6 : ∀ w, (Instr.sliceAt 25 (.slice (some ⟨ab, o2, none⟩) n2 c3) (some (.int .i64 1)) none none).run Try.prog w = .ok (.slice (some ⟨ab, o5, none⟩) (n2 - 1) (c3 - 1)) w := hsl5
                        obtain ⟨n6, hn6⟩ : ∃ n6 : Nat, n2 - 1 = n6 := ⟨_, rfl⟩
                        obtain ⟨c6, hc6⟩ : ∃ c6 : Nat, c3 - 1 = c6 := ⟨_, rfl⟩
                        rw [hn6, hc6] at hsl6
                        rw [hn6] at HB5
                        have Hn6 : Hid (n6 ≤ c6 ∧ n6 ≤ nb) := ⟨by omega, by omega⟩
                        have HL6 : Hid ((out ++ List.replicate N x).length = A + N) := by show _ = _; rw [List.length_append, List.length_replicate, HA.out]
                        have HE6 : Hid (comb (out ++ List.replicate N x) (runsD l (32768 - (out ++ List.replicate N x).length) r) = D) := by
                          show _ = _
                          rw [HL6.out, show 32768 - (A + N) = Nd - N by have := HNd.out; omega]
                          exact HE.out
                        have HS6 : Hid (A + N ≤ 32768 ∧ 1 ≤ N) := by have := HGN.out; have := HNd.out; exact ⟨by omega, by omega⟩
                        clear hsl5 hn6 hc6 hn2p hn2c hn2n h2' HE HGN HB4
                        go_wp2
                        go_roundw
                        case rel =>
                          refine ⟨o5, n6, c6, a3, c4, r, out ++ List.replicate N x, rfl, Hn6.out.1, Hn6.out.2, ?_, ?_, HB5, HO5, hb5, hs5, HE6⟩
                          · rw [HL6.out]
                          · rw [HL6.out]; exact HS6.out.1
                        case measure =>
                          have := HS6.out
                          simp [lenV]
                          omega
    · obtain rfl : A = 32768 := by omega
      have HC' : Hid (comb out (runsD l 0 rest) = D) := by show _ = _; rw [← HC.out, HA.out]
      clear HC hout
      by_cases h0 : n1 = 0
      · subst h0
        have e : D = (0, out) := by
          rw [← HC'.out, List.eq_nil_of_length_eq_zero hrl, runsD_done, if_pos rfl]
          unfold comb
          rw [if_pos rfl, List.append_nil]
        subst e
        clear HC' HB HL Hbyte hrl
        go_wp2
        go_ret2
        exact ⟨hb, a2, c2, rfl, HO.out⟩
      · have e : D = (2, []) := by
          rw [← HC'.out, runsD_done, if_neg (by intro e; subst e; simp at hrl; omega)]
          rfl
        subst e
        have h0' : (0 : Int) < n1 := by omega
        have h0n : 0 < n1 := by omega
        clear HC' HB HL Hbyte hrl HO h0
        go_wp2
        go_ret2
        exact ⟨hb, rfl⟩
end Go.Proofs.Ytdkihhjhjfkjjaa
