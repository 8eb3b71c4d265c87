/-
  The document's Needs.
-/
import Derived.Test.YtokjbjfpgjincaaLtask
import Derived.Test.YtokjbjfpgjincaaLheld
set_option maxRecDepth 20000
namespace Go.Proofs.Ytokjbjfpgjincaa
open Go.RowKit

theorem needsF_drop {x z : Int} {ys : List Rd} {i : Nat} (h : i < ys.length) : needsF x z (ys.drop i) = (nrL x z ys[i].2).map (tkOf ys[i].1) ++ needsF x z (ys.drop (i + 1)) := by
  rw [List.drop_eq_getElem_cons h, needsF]
set_option maxHeartbeats 1000000 in
theorem rneeds_c (a : Option Addr) (n c : Nat) (L : List Rn) (k x z : Int) (w : World) (hR : RgAt w a L) (hn : L.length = n) (hk : I64 k) (hx : Far 2199023255552 x) (hz : Far 2199023255552 z) :
    Calls Try.prog 20 #[.slice a n c, .agg #[.int .i64 k, .int .i64 x, .int .i64 z]] w fun e w' => Below w.heap.size w w' ∧ ∃ a' c', e = .returned (.slice a' (needsL (lad L) (k, x, z)).length c') ∧ TksAt w' a' (needsL (lad L) (k, x, z)) := by
  obtain ⟨Post, hPost⟩ : ∃ Post : Ending → World → Prop, Post = fun e w' => Below w.heap.size w w' ∧ ∃ a' c', e = .returned (.slice a' (needsL (lad L) (k, x, z)).length c') ∧ TksAt w' a' (needsL (lad L) (k, x, z)) := ⟨_, rfl⟩
  rw [← hPost]
  have HP : Hid (∀ a' c' m w', m = (needsL (lad L) (k, x, z)).length → Below w.heap.size w w' → TksAt w' a' (needsL (lad L) (k, x, z)) → Post (.returned (.slice a' m c')) w') := fun a' c' m w' h1 h2 h3 => by rw [hPost]; subst h1; exact ⟨h2, a', c', rfl, h3⟩
  clear hPost
  have HR : Hid (RgAt w a L) := hR
  have Hn : Hid (L.length = n) := hn
  have Hk : Hid (I64 k) := hk
  have Hx : Hid (Far 2199023255560 x) := ⟨by have := hx.1; omega, by have := hx.2; omega⟩
  have Hz : Hid (Far 2199023255560 z) := ⟨by have := hz.1; omega, by have := hz.2; omega⟩
  obtain ⟨hk1, hk2⟩ := hk
  clear hR hn hx hz
  have Hb0 : Hid (Below w.heap.size w (w.alloc (.cells #[.int .i64 k, .int .i64 x, .int .i64 z] 37))) := (Below.refl _ _).alloc (Nat.le_refl _) _
  have HX0 : Hid ((w.alloc (.cells #[.int .i64 k, .int .i64 x, .int .i64 z] 37)).heap[w.heap.size]? = some (.cells #[.int .i64 k, .int .i64 x, .int .i64 z] 37 (0, 0))) := heap_alloc_new w _
  go_enter Try.func20, Try.ntmps20
  go_wp2_with fail
  have hsz : (w.alloc (.cells #[.int .i64 k, .int .i64 x, .int .i64 z] 37)).heap.size = w.heap.size + 1 := by simp
  generalize w.alloc (.cells #[.int .i64 k, .int .i64 x, .int .i64 z] 37) = w0 at *
  refine (rmay_c a n c L w0 (HR.out.on Hb0.out) Hn.out).mono ?_
  rintro _ w1 ⟨rfl, hb1⟩
  have Hb1 : Hid (Below w0.heap.size w0 w1) := hb1
  have HX1 : Hid (w1.heap[w.heap.size]? = some (.cells #[.int .i64 k, .int .i64 x, .int .i64 z] 37 (0, 0))) := (hb1.block _ (by omega)).trans HX0.out
  have y0 : w1.cell? ⟨w.heap.size, 0, none⟩ = some (.int .i64 k) := (cell_of_row w1 _ 0 _ 37 (0, 0) HX1.out).trans rfl
  have Hbw : Hid (Below w.heap.size w w1) := Hb0.out.trans (hb1.mono Hb0.out.size)
  have hsz1 : w.heap.size < w1.heap.size := by have := hb1.size; omega
  have Hnil : Hid (stB (lad L) k = false → Post (.returned (.slice none 0 0)) w1) := fun h => by
    have e : needsL (lad L) (k, x, z) = [] := by unfold needsL; rw [h]; rfl
    exact HP.out none 0 0 w1 (by rw [e]; rfl) Hbw.out (.inl e)
  clear hb1 HX0
  cases hM : mayB (lad L) with
  | false =>
    have R := Hnil.out (by unfold stB; rw [hM]; rfl)
    clear HP Hnil
    go_wp2
    exact R
  | true =>
    by_cases h0 : k < 0
    · have R := Hnil.out (by unfold stB; rw [decide_eq_false (by omega)]; simp)
      clear HP Hnil
      go_wp2
      exact R
    · by_cases h1 : (n : Int) ≤ k
      · have R := Hnil.out (by unfold stB; rw [decide_eq_false (by rw [lad_len, Hn.out]; omega)]; simp)
        clear HP Hnil
        go_wp2
        exact R
      · obtain ⟨K, rfl⟩ := Int.eq_ofNat_of_zero_le (show 0 ≤ k by omega)
        have hKn : K < n := by omega
        have hst : stB (lad L) (K : Int) = true := by unfold stB; rw [hM, decide_eq_true (by rw [lad_len, Hn.out]; omega)]; rfl
        have hil : K < L.length := by rw [Hn.out]; exact hKn
        have e : needsL (lad L) ((K : Int), x, z) = needsF x z L[K].r := by unfold needsL; rw [if_pos hst]; simp only [Int.toNat_natCast]; rw [lad_at L K hil]
        have hF := (may_iff.1 hM).f
        have Hok : Hid (∀ y ∈ L[K].r, readOk K y) := fun y hy => hF.ok K y (by rw [lad_at L K hil]; exact hy)
        have hm16 : L[K].r.length ≤ 16 := by have := hF.m _ (getD_mem (l := lad L) (i := K) (by rw [lad_len]; exact hil)); rwa [lad_at L K hil] at this
        have HTL : Hid (needsL (lad L) ((K : Int), x, z) = needsF x z L[K].r) := e
        obtain ⟨b, off, rfl, hin⟩ := (HR.out.on Hbw.out) K hil
        have Hc0 : Hid (w1.cell? ⟨b, off + K, none⟩ = some (.slice L[K].a L[K].r.length L[K].c)) := hin.c0
        have Hrd : Hid (RdAt w1 L[K].a L[K].r) := hin.rd
        clear e hF hst hM Hnil hin y0
        generalize needsL (lad L) ((K : Int), x, z) = TL at *
        generalize L[K].a = ra at *
        generalize L[K].c = rc at *
        generalize L[K].r = rs at *
        obtain ⟨m, hm⟩ : ∃ m, m = rs.length := ⟨_, rfl⟩
        rw [← hm] at Hc0 hm16
        have Hm : Hid (m = rs.length) := hm
        clear hm
        have hKn' : (K : Int) < (n : Int) := by omega
        have y0 : w1.cell? ⟨w.heap.size, 0, none⟩ = some (.int .i64 (K : Int)) := (cell_of_row w1 _ 0 _ 37 (0, 0) HX1.out).trans rfl
        go_wp2_with fail
        clear y0
        go_loopw [6, 7] (fun v y wr => ∃ (i : Nat) (a' : Option Addr) (c' n' : Nat) (T : List Tk), y = .int .i64 (i : Int) ∧ i ≤ m ∧ v = .slice a' n' c' ∧ n' ≤ i * 289 ∧ Hid (Tw w1 a' c' n' T wr) ∧ Hid (T ++ needsF x z (rs.drop i) = TL)) (fun _ y _ => m - (intOf y).toNat)
        case atStart => exact ⟨0, none, 0, 0, [], by go_num, Nat.zero_le _, rfl, by omega, ⟨World.ownsRow_nil _ _ _ _, rfl, Below.refl _ _⟩, HTL.out.symm⟩
        case round =>
          obtain ⟨i, a1, c1, n1, T, rfl, hi, rfl, hn1, HT, HE⟩ := hrel
          have hX := (HT.out.bel.block w.heap.size (by omega)).trans HX1.out
          have y0 : wr.cell? ⟨w.heap.size, 0, none⟩ = some (.int .i64 (K : Int)) := (cell_of_row wr _ 0 _ 37 (0, 0) hX).trans rfl
          have y1 : wr.cell? ⟨w.heap.size, 1, none⟩ = some (.int .i64 x) := (cell_of_row wr _ 1 _ 37 (0, 0) hX).trans rfl
          have y2 : wr.cell? ⟨w.heap.size, 2, none⟩ = some (.int .i64 z) := (cell_of_row wr _ 2 _ 37 (0, 0) hX).trans rfl
          have c0 := cell_below Hc0.out HT.out.bel
          clear hX
          by_cases hlt : i < m
          · have hlt' : (i : Int) < (m : Int) := by omega
            have hil2 : i < rs.length := by rw [← Hm.out]; exact hlt
            obtain ⟨rb, ro, rfl, hx⟩ := (Hrd.out.on HT.out.bel) i hil2
            have x0 := hx.c0
            have x1 := hx.c1
            obtain ⟨k1, k2, k3, k4⟩ := Hok.out rs[i] (List.getElem_mem hil2)
            have HE2 : Hid (T ++ ((nrL x z rs[i].2).map (tkOf rs[i].1) ++ needsF x z (rs.drop (i + 1))) = TL) := by rw [← needsF_drop hil2]; exact HE
            obtain ⟨⟨s, q⟩, hsq⟩ : ∃ y, rs[i] = y := ⟨_, rfl⟩
            rw [hsq] at x0 x1 k1 k2 k3 k4 HE2
            simp only at x0 x1 k1 k2 k3 k4 HE2
            clear hsq hx HE HP
            have Hba : Hid (Below wr.heap.size wr (wr.alloc (.cells #[.int .i64 s, .int .i64 q] 45))) := (Below.refl _ _).alloc (Nat.le_refl _) _
            have HXX : Hid ((wr.alloc (.cells #[.int .i64 s, .int .i64 q] 45)).heap[wr.heap.size]? = some (.cells #[.int .i64 s, .int .i64 q] 45 (0, 0))) := heap_alloc_new wr _
            have g1 := cell_below y1 Hba.out
            have g2 := cell_below y2 Hba.out
            have g3 : (wr.alloc (.cells #[.int .i64 s, .int .i64 q] 45)).cell? ⟨wr.heap.size, 1, none⟩ = some (.int .i64 q) := (cell_of_row _ _ 1 _ 45 (0, 0) HXX.out).trans rfl
            have HT1 : Hid (Tw w1 a1 c1 n1 T (wr.alloc (.cells #[.int .i64 s, .int .i64 q] 45))) := ⟨HT.out.own.alloc _, HT.out.len, HT.out.bel.alloc HT.out.bel.size _⟩
            obtain ⟨X, hX⟩ : ∃ X, X = wr.heap.size := ⟨_, rfl⟩
            clear HT
            go_wp2_with fail
            rw [← hX] at HXX g3 ⊢
            generalize wr.alloc (.cells #[.int .i64 s, .int .i64 q] 45) = w2 at *
            clear y0 y1 y2 c0 x0 x1 Hba hX g1 g2 g3
            refine (rnear_c x z q w2 Hx.out Hz.out ⟨by omega, by omega⟩).mono ?_
            rintro _ w3 ⟨hb3, na, nc, rfl, hA, h289⟩
            have HA : Hid (OwnA w3 w2.heap.size na nc (nrL x z q)) := hA
            have HT3 : Hid (Tw w1 a1 c1 n1 T w3) := ⟨ownsRow_on HT1.out.own hb3, HT1.out.len, HT1.out.bel.trans (hb3.mono HT1.out.bel.size)⟩
            have HX3 : Hid (w3.heap[X]? = some (.cells #[.int .i64 s, .int .i64 q] 45 (0, 0))) := (hb3.block X (Array.getElem?_eq_some_iff.1 HXX.out).1).trans HXX.out
            clear hb3 hA HT1 HXX
            generalize nrL x z q = NR at *
            obtain ⟨p, hp⟩ : ∃ p, p = NR.length := ⟨_, rfl⟩
            rw [← hp] at h289 ⊢
            have Hp : Hid (p = NR.length) := hp
            clear hp
            go_wp2_with fail
            go_loopw [6, 10] (fun v y wr => ∃ (j : Nat) (a' : Option Addr) (c' n' : Nat), y = .int .i64 (j : Int) ∧ j ≤ p ∧ v = .slice a' n' c' ∧ Hid (n' = n1 + j) ∧ Hid (Tw w1 a' c' n' (T ++ (NR.take j).map (tkOf s)) wr) ∧ Hid (OwnA wr w2.heap.size na nc NR) ∧ Hid (wr.heap[X]? = some (.cells #[.int .i64 s, .int .i64 q] 45 (0, 0)))) (fun _ y _ => p - (intOf y).toNat)
            case atStart => exact ⟨0, a1, c1, n1, by go_num, Nat.zero_le _, rfl, (rfl : n1 = n1 + 0), (show Tw _ _ _ _ _ _ by rw [List.take_zero, List.map_nil, List.append_nil]; exact HT3.out), HA, HX3⟩
            case round =>
              clear HT3 HA HX3
              obtain ⟨j, a2, c2, n2, rfl, hj, rfl, hn2, HT, HA, HX⟩ := hrel
              by_cases hjp : j < p
              · have hjp' : (j : Int) < (p : Int) := by omega
                have hjl : j < NR.length := by rw [← Hp.out]; exact hjp
                obtain ⟨nb, no, rfl, hcs⟩ : ∃ b off, na = some ⟨b, off, none⟩ ∧ ∀ k (h : k < NR.length), AtIn wr b off k NR[k] := by
                  rcases HA.out.ats with h | h
                  · rw [h] at hjl; simp at hjl
                  · exact h
                have etk : NR.take (j + 1) = NR.take j ++ [NR[j]] := List.take_succ_eq_append_getElem hjl
                have HAc : Hid ((∀ w', Kp wr.drew w' → w'.cell? ⟨nb, no + j * 2, none⟩ = some (.int .i64 NR[j].1)) ∧ ∀ w', Kp wr.drew w' → w'.cell? ⟨nb, no + j * 2 + 1, none⟩ = some (.int .i64 NR[j].2)) := by
                  have key : ∀ w', Kp wr.drew w' → AtIn w' nb no j NR[j] := fun w' hk => by
                    have hA' : OwnA w' w2.heap.size (some ⟨nb, no, none⟩) nc NR := Kp.ownA (w := wr.drew) hk HA.out
                    rcases hA'.ats with h | ⟨b2, o2, e2, h⟩
                    · rw [h] at hjl; simp at hjl
                    · cases e2; exact h j hjl
                  exact ⟨fun w' hk => (key w' hk).c0, fun w' hk => (key w' hk).c1⟩
                have HT4 : Hid (Tw w1 a2 c2 n2 (T ++ (NR.take j).map (tkOf s)) (wr.drew)) := ⟨HT.out.own, HT.out.len, HT.out.bel.drew⟩
                have HA4 : Hid (OwnA (wr.drew) w2.heap.size (some ⟨nb, no, none⟩) nc NR) := HA.out
                have HX4 : Hid ((wr.drew).heap[X]? = some (.cells #[.int .i64 s, .int .i64 q] 45 (0, 0))) := HX.out
                obtain ⟨⟨u, v⟩, huv⟩ : ∃ y, NR[j] = y := ⟨_, rfl⟩
                rw [huv] at HAc etk
                simp only at HAc
                have HTn : Hid (T ++ (NR.take (j + 1)).map (tkOf s) = (T ++ (NR.take j).map (tkOf s)) ++ [(s, u, v)]) := by
                  show _ = _
                  rw [etk, List.map_append, List.append_assoc]
                  rfl
                generalize T ++ (NR.take j).map (tkOf s) = T1 at *
                clear HT HA HX hcs huv etk HE2
                go_wp2_with fail
                refine region_L (fun w' => Kp wr.drew w') 10 (by kernel_rfl) ?_
                generalize wr.drew = wd at *
                have hHeld : (fun w' => Kp wd w') wd := Kp.refl wd
                have hne : Nonempty (Sub (fun w' => Kp wd w')) := ⟨⟨_, hHeld⟩⟩
                have k0 : ∀ s : Sub (fun w' => Kp wd w'), s.w.cell? ⟨nb, no + j * 2, none⟩ = some (.int .i64 u) := fun s => HAc.out.1 s.w s.ok
                have k1 : ∀ s : Sub (fun w' => Kp wd w'), s.w.cell? ⟨nb, no + j * 2 + 1, none⟩ = some (.int .i64 v) := fun s => HAc.out.2 s.w s.ok
                have k2 : ∀ sb : Sub (fun w' => Kp wd w'), sb.w.cell? ⟨X, 0, none⟩ = some (.int .i64 s) := fun sb => (cell_of_row sb.w _ 0 _ 45 (0, 0) (sb.ok X _ 45 (0, 0) HX4.out (by decide))).trans rfl
                have HO2 : Hid (OwnT (wd.alloc (.cells #[.int .i64 s, .int .i64 u, .int .i64 v] 37)) w1.heap.size a2 c2 T1) := HT4.out.own.alloc _
                have HB2 : Hid (Below w1.heap.size w1 (wd.alloc (.cells #[.int .i64 s, .int .i64 u, .int .i64 v] 37))) := HT4.out.bel.alloc HT4.out.bel.size _
                have HK2 : Hid (Kp wd (wd.alloc (.cells #[.int .i64 s, .int .i64 u, .int .i64 v] 37))) := Kp.of_below ((Below.refl _ _).alloc (Nat.le_refl _) _)
                have Hl2 : Hid (T1.length = n2) := HT4.out.len
                have Hws : Hid (w1.heap.size ≤ wd.heap.size) := HT4.out.bel.size
                have hle : n2 ≤ 1000000 := by have := hn2.out; omega
                have Hn3 : Hid (n2 + 1 = n1 + (j + 1)) := by have := hn2.out; show _ = _; omega
                clear HT4
                refine take_L (i := 0) rfl (by kernel_rfl) (by kernel_rfl) (by kernel_rfl) (by kernel_rfl) (fun _ _ _ _ h => h) (by exact hHeld) (fun K hK => ?_)
                go_simp
                refine hK _ ?_
                clear hK K
                refine take_L (i := 1) rfl (by kernel_rfl) (by kernel_rfl) (by kernel_rfl) (by kernel_rfl) (fun _ _ _ _ h => h) (by exact hHeld) (fun K hK => ?_)
                go_simp
                refine hK _ ?_
                clear hK K
                refine take_L (i := 2) rfl (by kernel_rfl) (by kernel_rfl) (by kernel_rfl) (by kernel_rfl) (fun _ _ _ _ h => h) (by exact hHeld) (fun K hK => ?_)
                go_simp
                refine hK _ ?_
                clear hK K
                refine take_L (i := 3) rfl (by kernel_rfl) (by kernel_rfl) (by kernel_rfl) (by kernel_rfl) (fun _ _ _ _ h => h) (by exact hHeld) (fun K hK => ?_)
                go_simp
                refine hK _ ?_
                clear hK K
                refine take_L (i := 4) rfl (by kernel_rfl) (by kernel_rfl) (by kernel_rfl) (by kernel_rfl) (fun _ _ _ _ h => h) (by exact hHeld) (fun K hK => ?_)
                go_simp
                refine hK _ ?_
                clear hK K
                refine take_L (i := 5) rfl (by kernel_rfl) (by kernel_rfl) (by kernel_rfl) (by kernel_rfl) (fun _ _ _ _ h => h) (by exact hHeld) (fun K hK => ?_)
                go_simp
                refine hK _ ?_
                clear hK K
                refine take_L (i := 6) rfl (by kernel_rfl) (by kernel_rfl) (by kernel_rfl) (by kernel_rfl) (fun _ _ _ _ h => h) (by exact hHeld) (fun K hK => ?_)
                go_simp
                refine hK _ ?_
                clear hK K
                refine take_L (i := 7) rfl (by kernel_rfl) (by kernel_rfl) (by kernel_rfl) (by kernel_rfl) (fun _ _ _ _ h => h) (by exact hHeld) (fun K hK => ?_)
                go_simp
                refine hK _ ?_
                clear hK K
                refine one_L (i := 8) (by kernel_rfl) rfl (fun K hK => ?_)
                go_simp
                refine hK.out _ _ (fun _ => HK2.out) ?_
                clear hK K
                refine one_Lg (i := 9) (by kernel_rfl) rfl rfl (fun K hK => ?_)
                refine wp_append_tk _ _ rfl w1.heap.size a2 n2 c2 T1 Hl2.out rfl HO2.out ⟨wd.heap.size, 0, none⟩ (s, u, v) rfl (cell_three_new _ _ _ _ _) hle w1 HB2.out (by have := Hws.out; simp; omega) ?_
                intro a3 c3 w4 HO3 hb3 hkp
                refine hK.out _ _ (fun _ => HK2.out.trans hkp) ?_
                clear hK K
                refine one_L (i := 10) (by kernel_rfl) rfl (fun K hK => ?_)
                go_simp
                refine hK.out _ _ (fun h => absurd rfl h) ?_
                clear hK K
                refine done_L (by kernel_rfl) ?_ _
                have HT5 : Hid (Tw w1 a3 c3 (n2 + 1) (T ++ (NR.take (j + 1)).map (tkOf s)) w4) := ⟨by rw [HTn.out]; exact HO3.out, by rw [HTn.out, List.length_append, Hl2.out]; rfl, hb3⟩
                have HA5 : Hid (OwnA w4 w2.heap.size (some ⟨nb, no, none⟩) nc NR) := (HK2.out.trans hkp).ownA HA4.out
                have HX5 : Hid (w4.heap[X]? = some (.cells #[.int .i64 s, .int .i64 q] 45 (0, 0))) := (HK2.out.trans hkp) X _ 45 (0, 0) HX4.out (by decide)
                clear HO3 hb3 hkp HO2 HB2 HK2 Hl2 HTn HA4 HX4 HAc hHeld hne k0 k1 k2
                go_wp2
                go_roundw
                case rel => exact ⟨j + 1, a3, c3, n2 + 1, by go_num, by omega, rfl, Hn3, HT5, HA5, HX5⟩
                case measure => simp [intOf]; omega
              · obtain rfl : j = p := by omega
                have hge : ¬ (j : Int) < (j : Int) := by omega
                have HT5 : Hid (Tw w1 a2 c2 n2 (T ++ NR.map (tkOf s)) wr) := by have := HT.out; rw [List.take_of_length_le (by rw [← Hp.out]; exact Nat.le_refl _)] at this; exact this
                have HE5 : Hid ((T ++ NR.map (tkOf s)) ++ needsF x z (rs.drop (i + 1)) = TL) := by show _ = _; rw [List.append_assoc]; exact HE2.out
                clear HT HE2 HA HX
                go_wp2
                go_roundw
                case rel => exact ⟨i + 1, by go_num, by omega, a2, c2, n2, ⟨rfl, rfl, rfl⟩, by have := hn2.out; omega, _, HT5, HE5⟩
                case measure => simp [intOf]; omega
          · obtain rfl : i = m := by omega
            have hge : ¬ (i : Int) < (i : Int) := by omega
            have eT : T = TL := by have := HE.out; rw [List.drop_of_length_le (by rw [← Hm.out]; exact Nat.le_refl _), needsF, List.append_nil] at this; exact this
            have R := HP.out a1 c1 n1 wr (by rw [← eT]; exact HT.out.len.symm) (Hbw.out.trans (HT.out.bel.mono (by omega))) (by rw [← eT]; exact HT.out.own.tks)
            clear HP eT HE HT
            go_wp2
            exact R
end Go.Proofs.Ytokjbjfpgjincaa
