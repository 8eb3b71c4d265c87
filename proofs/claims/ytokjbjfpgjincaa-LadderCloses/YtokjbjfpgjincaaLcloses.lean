/-
  LadderCloses, walked over any ladder package that keeps what is asked.
-/
import Derived.Test.YtokjbjfpgjincaaLclos
set_option maxRecDepth 20000
namespace Go.Proofs.Ytokjbjfpgjincaa
open Go.RowKit

set_option maxHeartbeats 4000000 in
theorem ladderCloses_walk (J : LSpec) (a : Option Addr) (n c : Nat) (L : List Rn) (k x z : Int) (w : World) (hR : RgAt w a L) (hn : L.length = n) (hle : n ≤ maxLen) (hk : I64 k) :
    Calls Try.prog 6 #[.slice a n c, .int .i64 k, .agg #[.int .i64 x, .int .i64 z]] w fun e w' => e = .returned (.bool true) ∧ Below w.heap.size w w' := by
  obtain ⟨Post, hPost⟩ : ∃ Post : Ending → World → Prop, Post = fun e w' => e = .returned (.bool true) ∧ Below w.heap.size w w' := ⟨_, rfl⟩
  rw [← hPost]
  have HP : Hid (∀ w', Below w.heap.size w w' → Post (.returned (.bool true)) w') := fun w' h => by rw [hPost]; exact ⟨rfl, h⟩
  clear hPost
  have HR : Hid (RgAt w a L) := hR
  have Hk : Hid (I64 k) := hk
  have Hn : Hid (L.length = n) := hn
  clear hR hk hn
  have Hb0 : Hid (Below w.heap.size w (w.alloc (.cells #[.int .i64 x, .int .i64 z] 31))) := (Below.refl _ _).alloc (Nat.le_refl _) _
  have HX0 : Hid ((w.alloc (.cells #[.int .i64 x, .int .i64 z] 31)).heap[w.heap.size]? = some (.cells #[.int .i64 x, .int .i64 z] 31 (0, 0))) := heap_alloc_new w _
  go_enter Try.func6, Try.ntmps6
  go_wp2_with fail
  have hsz : (w.alloc (.cells #[.int .i64 x, .int .i64 z] 31)).heap.size = w.heap.size + 1 := by simp
  generalize w.alloc (.cells #[.int .i64 x, .int .i64 z] 31) = w0 at *
  refine (awake_c J w0).mono ?_
  rintro _ w1 ⟨rfl, hb1⟩
  have Hb1 : Hid (Below w.heap.size w w1) := Hb0.out.trans (hb1.mono Hb0.out.size)
  have HX1 : Hid (w1.heap[w.heap.size]? = some (.cells #[.int .i64 x, .int .i64 z] 31 (0, 0))) := (hb1.block _ (by omega)).trans HX0.out
  clear hb1 HX0 Hb0 hsz w0
  go_wp2_with fail
  refine (J.cap_ a n c L k w1 (HR.out.on Hb1.out) Hn.out hle Hk.out).mono ?_
  rintro _ wa ⟨rfl, hb1⟩
  have Hba : Hid (Below w.heap.size w wa) := Hb1.out.trans (hb1.mono Hb1.out.size)
  have HXa : Hid (wa.heap[w.heap.size]? = some (.cells #[.int .i64 x, .int .i64 z] 31 (0, 0))) := (hb1.block _ (Array.getElem?_eq_some_iff.1 HX1.out).1).trans HX1.out
  have Hcap : Hid (((tasksL (lad L) k x z).length : Int) = capS (radL (lad L) k)) := tasksF_len x z (radL (lad L) k) 0 (fun r hr => (radL_rng hr).2)
  have y0 : wa.cell? ⟨w.heap.size, 0, none⟩ = some (.int .i64 x) := (cell_of_row wa _ 0 _ 31 (0, 0) HXa.out).trans rfl
  have y1 : wa.cell? ⟨w.heap.size, 1, none⟩ = some (.int .i64 z) := (cell_of_row wa _ 1 _ 31 (0, 0) HXa.out).trans rfl
  clear hb1 HX1 Hb1
  obtain ⟨tn, htn⟩ : ∃ m, m = (tasksL (lad L) k x z).length := ⟨_, rfl⟩
  have Htn : Hid (tn = (tasksL (lad L) k x z).length) := htn
  have hC : capS (radL (lad L) k) = (tn : Int) := by rw [htn]; exact Hcap.out.symm
  rw [hC]
  clear htn hC Hcap
  by_cases g0 : 300 < (tn : Int)
  · have R := HP.out wa Hba.out
    clear HP
    go_wp2
    exact R
  by_cases g1 : x < -1099511627776
  · have R := HP.out wa Hba.out
    clear HP
    go_wp2
    exact R
  by_cases g2 : 1099511627776 < x
  · have R := HP.out wa Hba.out
    clear HP
    go_wp2
    exact R
  by_cases g3 : z < -1099511627776
  · have R := HP.out wa Hba.out
    clear HP
    go_wp2
    exact R
  by_cases g4 : 1099511627776 < z
  · have R := HP.out wa Hba.out
    clear HP
    go_wp2
    exact R
  have Hx : Hid (Far 1099511627776 x) := ⟨by omega, by omega⟩
  have Hz : Hid (Far 1099511627776 z) := ⟨by omega, by omega⟩
  go_wp2_with fail
  clear y0 y1
  refine (J.tasks_ a n c L k x z wa (HR.out.on Hba.out) Hn.out hle Hk.out Hx.out Hz.out).mono ?_
  rintro _ w2 ⟨hb2, ta, tc, rfl, hT⟩
  have Hb2 : Hid (Below w.heap.size w w2) := Hba.out.trans (hb2.mono Hba.out.size)
  have HX2 : Hid (w2.heap[w.heap.size]? = some (.cells #[.int .i64 x, .int .i64 z] 31 (0, 0))) := (hb2.block _ (Array.getElem?_eq_some_iff.1 HXa.out).1).trans HXa.out
  have HT : Hid (TksAt w2 ta (tasksL (lad L) k x z)) := hT
  have HR2 : Hid (RgAt w2 a L) := HR.out.on Hb2.out
  have Hlast : Hid (0 < tn → (tasksL (lad L) k x z)[tn - 1]? = some (k, x, z)) := fun h => by
    obtain ⟨h1, h2⟩ := tasks_last (x := x) (z := z) (stOk_of_task (l := lad L) (k := k) (x := x) (z := z) (by rw [← Htn.out]; exact h))
    rw [Htn.out, List.getElem?_eq_getElem (by omega), h2]
  have Hall : Hid (∀ U m, Us (lad L) (tasksL (lad L) k x z) U tn → m + 1 < tn → us U m = true) := fun U m h1 h2 => us_all (stOk_of_task (l := lad L) (k := k) (x := x) (z := z) (by rw [← Htn.out]; omega)) (by rw [← Htn.out]; exact h1) (by rw [← Htn.out]; exact h2)
  have Hone : Hid (∀ i j (hi : i < (tasksL (lad L) k x z).length) (hj : j < (tasksL (lad L) k x z).length), j < i → (tasksL (lad L) k x z)[j] ≠ (tasksL (lad L) k x z)[i]) := fun i j hi hj h => List.pairwise_iff_getElem.1 tasks_once j i hj hi h
  have Hstep : Hid (∀ i U (hi : i < (tasksL (lad L) k x z).length), Us (lad L) (tasksL (lad L) k x z) U i → Us2 (tasksL (lad L) k x z) U i (needsL (lad L) (tasksL (lad L) k x z)[i]).length (needsL (lad L) (tasksL (lad L) k x z)[i]) → Us (lad L) (tasksL (lad L) k x z) U (i + 1)) := fun i U hi h1 h2 => us_step (stOk_of_task (l := lad L) (k := k) (x := x) (z := z) (by omega)) hi h1 h2
  have Hfnd : Hid (∀ i (hi : i < (tasksL (lad L) k x z).length) (u : Tk), u ∈ needsL (lad L) (tasksL (lad L) k x z)[i] → ∃ m, m < i ∧ (tasksL (lad L) k x z)[m]? = some u) := fun i hi u hu => by
    obtain ⟨m, hm, h1, h2⟩ := tasks_need (stOk_of_task (l := lad L) (k := k) (x := x) (z := z) (by omega)) hi hu
    exact ⟨m, h1, by rw [List.getElem?_eq_getElem hm, h2]⟩
  have Hfar : Hid (∀ t ∈ tasksL (lad L) k x z, I64 t.1 ∧ Far 2199023255552 t.2.1 ∧ Far 2199023255552 t.2.2) := fun t ht => tasks_far Hx.out Hz.out ht
  rw [← Htn.out]
  generalize tasksL (lad L) k x z = T at *
  have hcc : ¬ (tn : Int) ≠ (tn : Int) := by omega
  clear hb2 hT HXa Hba Hx Hz HR g0 g1 g2 g3 g4
  have htn300 : tn ≤ 300 := by omega
  go_wp2_with (at_make; refine wpList_make_bools _ rfl _ _ rfl (tn : Int) tn rfl rfl rfl (by omega) ?_; intro w3 HB3 hb3)
  have HC3 : Hid (Cw w2 w2.heap.size tn (List.replicate tn false) w3) := ⟨HB3.out, by simp, hb3, Nat.le_refl _⟩
  obtain ⟨ub, hub⟩ : ∃ ub, ub = w2.heap.size := ⟨_, rfl⟩
  have Hub : Hid (ub = w2.heap.size) := hub
  rw [← hub] at HC3 ⊢
  clear hub hb3 HB3
  go_loopw [11] (fun v wr => ∃ (i : Nat) (U : List Bool), i ≤ tn ∧ v = .int .i64 (i : Int) ∧ Hid (Cw w2 ub tn U wr) ∧ Hid (Us (lad L) T U i)) (fun v _ => tn - (intOf v).toNat)
  case atStart => exact ⟨0, _, Nat.zero_le _, by go_num, HC3, fun m i' u h => by omega⟩
  case round =>
    clear HC3
    obtain ⟨i, U, hi, rfl, HC, HU⟩ := hrel
    by_cases hlt : i < tn
    · have hlt' : (i : Int) < (tn : Int) := by omega
      have hil : i < T.length := by rw [← Htn.out]; exact hlt
      go_wp2_with fail
      go_loopw [12] (fun v wr => ∃ (j : Nat), j ≤ i ∧ v = .int .i64 (j : Int) ∧ Hid (Cw w2 ub tn U wr)) (fun v _ => i - (intOf v).toNat)
      case atStart => exact ⟨0, Nat.zero_le _, by go_num, HC⟩
      case round =>
        clear HC
        obtain ⟨j, hj, rfl, HC⟩ := hrel
        by_cases hji : j < i
        · have hji' : (j : Int) < (i : Int) := by omega
          have hjt' : (j : Int) < (tn : Int) := by omega
          have hjl : j < T.length := by omega
          obtain ⟨tb, to, rfl, hcs⟩ := (HT.out.on HC.out.bel).at hil
          have p0 := (hcs j hjl).c0
          have p1 := (hcs j hjl).c1
          have p2 := (hcs j hjl).c2
          have q0 := (hcs i hil).c0
          have q1 := (hcs i hil).c1
          have q2 := (hcs i hil).c2
          have hne := Hone.out i j hil hjl hji
          obtain ⟨⟨t0, t1, t2⟩, ht⟩ : ∃ t, T[j] = t := ⟨_, rfl⟩
          obtain ⟨⟨s0, s1, s2⟩, hs⟩ : ∃ t, T[i] = t := ⟨_, rfl⟩
          rw [ht] at p0 p1 p2 hne
          rw [hs] at q0 q1 q2 hne
          simp only at p0 p1 p2 q0 q1 q2
          have Hne : Hid ((t0, t1, t2) ≠ (s0, s1, s2)) := hne
          clear hcs ht hs hne HP
          by_cases e0 : t0 = s0
          · by_cases e1 : t1 = s1
            · by_cases e2 : t2 = s2
              · exact absurd (by rw [e0, e1, e2]) Hne.out
              · clear Hne
                subst e0 e1
                go_wp2_with fail
                go_big_quiet (fail)
                have HC2 : Hid (Cw w2 ub tn U (wr.drewN nq)) := ⟨HC.out.row, HC.out.len, below_drewN HC.out.bel nq, HC.out.ge⟩
                clear HC
                go_wp2
                go_roundw
                case rel => exact ⟨j + 1, by omega, by go_num, HC2⟩
                case measure => simp [intOf]; omega
            · clear Hne
              subst e0
              go_wp2_with fail
              go_big_quiet (fail)
              have HC2 : Hid (Cw w2 ub tn U (wr.drewN nq)) := ⟨HC.out.row, HC.out.len, below_drewN HC.out.bel nq, HC.out.ge⟩
              clear HC
              go_wp2
              go_roundw
              case rel => exact ⟨j + 1, by omega, by go_num, HC2⟩
              case measure => simp [intOf]; omega
          · clear Hne
            go_wp2_with fail
            go_big_quiet (fail)
            have HC2 : Hid (Cw w2 ub tn U (wr.drewN nq)) := ⟨HC.out.row, HC.out.len, below_drewN HC.out.bel nq, HC.out.ge⟩
            clear HC
            go_wp2
            go_roundw
            case rel => exact ⟨j + 1, by omega, by go_num, HC2⟩
            case measure => simp [intOf]; omega
        · obtain rfl : j = i := by omega
          have hge : ¬ (j : Int) < (j : Int) := by omega
          obtain ⟨tb, to, rfl, hcs⟩ := (HT.out.on HC.out.bel).at hil
          have q0 := (hcs j hil).c0
          have q1 := (hcs j hil).c1
          have q2 := (hcs j hil).c2
          obtain ⟨f1, f2, f3⟩ := Hfar.out T[j] (List.getElem_mem hil)
          have Hst := Hstep.out j
          have Hfd := Hfnd.out j hil
          have Hst2 : Hid (∀ U, Us (lad L) T U j → Us2 T U j (needsL (lad L) T[j]).length (needsL (lad L) T[j]) → Us (lad L) T U (j + 1)) := fun U h1 h2 => Hst U hil h1 h2
          have Hfd2 : Hid (∀ u, u ∈ needsL (lad L) T[j] → ∃ m, m < j ∧ T[m]? = some u) := Hfd
          have hN5 := needsL_le (lad L) T[j]
          obtain ⟨⟨s0, s1, s2⟩, hs⟩ : ∃ t, T[j] = t := ⟨_, rfl⟩
          rw [hs] at q0 q1 q2 f1 f2 f3 Hst2 Hfd2 hN5
          simp only at q0 q1 q2 f1 f2 f3
          clear hcs Hst Hfd hs HP
          go_wp2_with fail
          refine (J.needs_ a n c L s0 s1 s2 wr (HR2.out.on HC.out.bel) Hn.out hle f1 f2 f3).mono ?_
          rintro _ w4 ⟨hb4, na, nc, rfl, hN⟩
          have HN : Hid (TksAt w4 na (needsL (lad L) (s0, s1, s2))) := hN
          have HC4 : Hid (Cw w2 ub tn U w4) := HC.out.on hb4
          clear hb4 hN q0 q1 q2 HC f1 f2 f3
          generalize needsL (lad L) (s0, s1, s2) = N at *
          obtain ⟨nn, hnn⟩ : ∃ m, m = N.length := ⟨_, rfl⟩
          have Hnn : Hid (nn = N.length) := hnn
          rw [← hnn] at hN5 Hst2 ⊢
          clear hnn
          go_wp2_with fail
          go_loopw [14] (fun v wr => ∃ (q : Nat) (V : List Bool), q ≤ nn ∧ v = .int .i64 (q : Int) ∧ Hid (Cw w2 ub tn V wr) ∧ Hid (TksAt wr na N) ∧ Hid (Us (lad L) T V j) ∧ Hid (Us2 T V j q N)) (fun v _ => nn - (intOf v).toNat)
          case atStart => exact ⟨0, U, Nat.zero_le _, by go_num, HC4, HN, HU, fun m p u h => by omega⟩
          case round =>
            clear HC4 HN HU
            obtain ⟨q, V, hq, rfl, HC, HN, HU, HU2⟩ := hrel
            by_cases hqn : q < nn
            · have hqn' : (q : Int) < (nn : Int) := by omega
              have hql : q < N.length := by rw [← Hnn.out]; exact hqn
              obtain ⟨nb, no, rfl, _⟩ := HN.out.at hql
              have Hf : Hid (∃ m, m < j ∧ T[m]? = some N[q]) := Hfd2.out _ (List.getElem_mem hql)
              have HqN : Hid (N[q]? = some N[q]) := List.getElem?_eq_getElem hql
              obtain ⟨u, hu⟩ : ∃ u, u = N[q] := ⟨_, rfl⟩
              have Hu : Hid (N[q] = u) := hu.symm
              rw [← hu] at Hf HqN
              clear hu
              go_wp2_with fail
              go_loopw [15, 16] (fun f v wr => ∃ (m : Nat) (V : List Bool) (fd : Bool), m ≤ j ∧ v = .int .i64 (m : Int) ∧ f = .bool fd ∧ Hid (Cw w2 ub tn V wr) ∧ Hid (TksAt wr (some ⟨nb, no, none⟩) N) ∧ Hid (Us (lad L) T V j) ∧ Hid (Us2 T V j q N) ∧ Hid (∀ m', m' < m → T[m']? = some u → us V m' = true ∧ fd = true)) (fun _ v _ => j - (intOf v).toNat)
              case atStart => exact ⟨0, V, false, Nat.zero_le _, by go_num, rfl, HC, HN, HU, HU2, fun m' h => by omega⟩
              case round =>
                clear HC HN HU HU2
                obtain ⟨m, V, fd, hm, rfl, rfl, HC, HN, HU, HU2, HF⟩ := hrel
                by_cases hmj : m < j
                · have hmj' : (m : Int) < (j : Int) := by omega
                  have hmt' : (m : Int) < (tn : Int) := by omega
                  have hml : m < T.length := by omega
                  obtain ⟨tb2, to2, e, hcs⟩ := (HT.out.on HC.out.bel).at hml
                  cases e
                  obtain ⟨nb2, no2, e, hcn⟩ := HN.out.at hql
                  cases e
                  have p0 := (hcs m hml).c0
                  have p1 := (hcs m hml).c1
                  have p2 := (hcs m hml).c2
                  have q0 := (hcn q hql).c0
                  have q1 := (hcn q hql).c1
                  have q2 := (hcn q hql).c2
                  rw [Hu.out] at q0 q1 q2
                  obtain ⟨⟨t0, t1, t2⟩, ht⟩ : ∃ t, T[m] = t := ⟨_, rfl⟩
                  have Htm : Hid (T[m]? = some (t0, t1, t2)) := by show _ = _; rw [List.getElem?_eq_getElem hml, ht]
                  obtain ⟨u0, u1, u2⟩ := u
                  rw [ht] at p0 p1 p2
                  simp only at p0 p1 p2 q0 q1 q2
                  have Hno : Hid ((t0, t1, t2) ≠ (u0, u1, u2) → ∀ m', m' < m + 1 → T[m']? = some (u0, u1, u2) → us V m' = true ∧ fd = true) := fun h m' h1 h2 => by
                    by_cases e : m' = m
                    · subst e; rw [Htm.out] at h2; exact absurd (Option.some.inj h2) h
                    · exact HF.out m' (by omega) h2
                  clear hcs hcn ht Hf
                  by_cases e0 : t0 = u0
                  · by_cases e1 : t1 = u1
                    · by_cases e2 : t2 = u2
                      · subst e0 e1 e2
                        have hmV : m < V.length := by rw [HC.out.len]; omega
                        have HFn : Hid (∀ m', m' < m + 1 → T[m']? = some (t0, t1, t2) → us (V.set m true) m' = true ∧ true = true) := fun m' h1 h2 => ⟨by
                          by_cases e : m' = m
                          · subst e; exact us_here hmV
                          · exact us_keep m (HF.out m' (by omega) h2).1, rfl⟩
                        have HU' : Hid (Us (lad L) T (V.set m true) j) := HU.out.set m
                        have HU2' : Hid (Us2 T (V.set m true) j q N) := HU2.out.set m
                        clear Hno HF HU HU2
                        go_wp2_with fail
                        go_big_quiet (fail)
                        have HCd : Hid (Cw w2 ub tn V (wr.drewN nq)) := ⟨HC.out.row, HC.out.len, below_drewN HC.out.bel nq, HC.out.ge⟩
                        have HNd : Hid (TksAt (wr.drewN nq) (some ⟨nb, no, none⟩) N) := HN.out.on (below_drewN (Below.refl _ _) nq)
                        clear HC HN p0 p1 p2 q0 q1 q2
                        generalize wr.drewN nq = wd at *
                        have r0 := HCd.out.row.at hmV
                        have r1 := HCd.out.row.free m
                        generalize V.getD m false = old at r0
                        have HC' : Hid (Cw w2 ub tn (V.set m true) (wd.setCell ⟨ub, m, none⟩ (.bool true))) := HCd.out.set m
                        have HN' : Hid (TksAt (wd.setCell ⟨ub, m, none⟩ (.bool true)) (some ⟨nb, no, none⟩) N) := HNd.out.set HCd.out.row
                        clear HCd HNd
                        go_wp2
                        go_roundw
                        case rel => exact ⟨m + 1, _, true, by omega, by go_num, rfl, HC', HN', HU', HU2', fun m' h1 h2 => ⟨(HFn.out m' h1 h2).1, rfl⟩⟩
                        case measure => simp [intOf]; omega
                      · have HF' : Hid (∀ m', m' < m + 1 → T[m']? = some (u0, u1, u2) → us V m' = true ∧ fd = true) := Hno.out (fun h => e2 (by cases h; rfl))
                        clear Hno HF
                        subst e0 e1
                        go_wp2_with fail
                        go_big_quiet (fail)
                        have HC2 : Hid (Cw w2 ub tn V (wr.drewN nq)) := ⟨HC.out.row, HC.out.len, below_drewN HC.out.bel nq, HC.out.ge⟩
                        have HN2 : Hid (TksAt (wr.drewN nq) (some ⟨nb, no, none⟩) N) := HN.out.on (below_drewN (Below.refl _ _) nq)
                        clear HC HN
                        go_wp2
                        go_roundw
                        case rel => exact ⟨m + 1, V, fd, by omega, by go_num, rfl, HC2, HN2, HU, HU2, HF'⟩
                        case measure => simp [intOf]; omega
                    · have HF' : Hid (∀ m', m' < m + 1 → T[m']? = some (u0, u1, u2) → us V m' = true ∧ fd = true) := Hno.out (fun h => e1 (by cases h; rfl))
                      clear Hno HF
                      subst e0
                      go_wp2_with fail
                      go_big_quiet (fail)
                      have HC2 : Hid (Cw w2 ub tn V (wr.drewN nq)) := ⟨HC.out.row, HC.out.len, below_drewN HC.out.bel nq, HC.out.ge⟩
                      have HN2 : Hid (TksAt (wr.drewN nq) (some ⟨nb, no, none⟩) N) := HN.out.on (below_drewN (Below.refl _ _) nq)
                      clear HC HN
                      go_wp2
                      go_roundw
                      case rel => exact ⟨m + 1, V, fd, by omega, by go_num, rfl, HC2, HN2, HU, HU2, HF'⟩
                      case measure => simp [intOf]; omega
                  · have HF' : Hid (∀ m', m' < m + 1 → T[m']? = some (u0, u1, u2) → us V m' = true ∧ fd = true) := Hno.out (fun h => e0 (by cases h; rfl))
                    clear Hno HF
                    go_wp2_with fail
                    go_big_quiet (fail)
                    have HC2 : Hid (Cw w2 ub tn V (wr.drewN nq)) := ⟨HC.out.row, HC.out.len, below_drewN HC.out.bel nq, HC.out.ge⟩
                    have HN2 : Hid (TksAt (wr.drewN nq) (some ⟨nb, no, none⟩) N) := HN.out.on (below_drewN (Below.refl _ _) nq)
                    clear HC HN
                    go_wp2
                    go_roundw
                    case rel => exact ⟨m + 1, V, fd, by omega, by go_num, rfl, HC2, HN2, HU, HU2, HF'⟩
                    case measure => simp [intOf]; omega
                · obtain rfl : m = j := by omega
                  have hge2 : ¬ (m : Int) < (m : Int) := by omega
                  obtain rfl : fd = true := by
                    obtain ⟨m', h1, h2⟩ := Hf.out
                    exact (HF.out m' h1 h2).2
                  have HU2' : Hid (Us2 T V m (q + 1) N) := fun m' p u' h1 h2 h3 h4 => by
                    by_cases e : p = q
                    · subst e
                      rw [HqN.out] at h4
                      cases h4
                      exact (HF.out m' h2 h3).1
                    · exact HU2.out m' p u' (by omega) h2 h3 h4
                  clear HF HU2 Hf
                  go_wp2
                  go_roundw
                  case rel => exact ⟨q + 1, V, by omega, by go_num, HC, HN, HU, HU2'⟩
                  case measure => simp [intOf]; omega
            · obtain rfl : q = nn := by omega
              have hge2 : ¬ (q : Int) < (q : Int) := by omega
              have HU' : Hid (Us (lad L) T V (j + 1)) := Hst2.out V HU.out HU2.out
              clear HU HU2 HN
              go_wp2
              go_roundw
              case rel => exact ⟨j + 1, V, by omega, by go_num, HC, HU'⟩
              case measure => simp [intOf]; omega
    · obtain rfl : i = tn := by omega
      have hge : ¬ (i : Int) < (i : Int) := by omega
      have HA : Hid (∀ m, m + 1 < i → us U m = true) := fun m hm => Hall.out U m HU.out hm
      clear HU Hall Hone Hstep Hfnd Hfar
      go_wp2_with fail
      go_loopw [17] (fun v wr => ∃ (m : Nat), (m ≤ i) ∧ v = .int .i64 (m : Int) ∧ Hid (Cw w2 ub i U wr)) (fun v _ => i - (intOf v).toNat)
      case atStart => exact ⟨0, Nat.zero_le _, by go_num, HC⟩
      case round =>
        clear HC
        obtain ⟨m, hm, rfl, HC⟩ := hrel
        have hwr : IntKind.i64.wrap ((m : Int) + 1) = (m : Int) + 1 := by rw [IntKind.wrap_i64]; omega
        by_cases hm1 : m + 1 < i
        · have hm1' : (m : Int) + 1 < (i : Int) := by omega
          have hmi' : (m : Int) < (i : Int) := by omega
          have r0 := HC.out.row.at (i := m) (by rw [HC.out.len]; omega)
          have r1 : U.getD m false = true := HA.out m hm1
          rw [r1] at r0
          clear r1 HP
          go_wp2
          go_roundw
          case rel => exact ⟨m + 1, by omega, by go_num, HC⟩
          case measure => simp [intOf]; omega
        · have hm1' : ¬ (m : Int) + 1 < (i : Int) := by omega
          have HE : Hid (∀ nq, Post (.returned (.bool true)) (wr.drewN nq)) := fun nq => HP.out _ (below_drewN (Hb2.out.trans (HC.out.bel.mono Hb2.out.size)) nq)
          clear HP
          by_cases hi0 : i = 0
          · have hi0' : (i : Int) = 0 := by omega
            clear HC Hlast HA hi0
            go_wp2_with fail
            go_big_quiet (fail)
            have R := HE.out nq
            clear HE
            go_wp2
            exact R
          · obtain ⟨e, he⟩ : ∃ e, i = e + 1 := ⟨i - 1, by omega⟩
            have hel : e < T.length := by rw [← Htn.out]; omega
            obtain ⟨tb, to, rfl, hcs⟩ := (HT.out.on HC.out.bel).at hel
            have hTe : T[e] = (k, x, z) := by
              have := Hlast.out (by omega)
              rw [he, Nat.add_sub_cancel, List.getElem?_eq_getElem hel] at this
              exact Option.some.inj this
            have q0 := (hcs e hel).c0
            have q1 := (hcs e hel).c1
            have q2 := (hcs e hel).c2
            rw [hTe] at q0 q1 q2
            simp only at q0 q1 q2
            have hX := (HC.out.bel.block w.heap.size (by have := Array.getElem?_eq_some_iff.1 HX2.out; obtain ⟨h, _⟩ := this; exact h)).trans HX2.out
            have y0 : wr.cell? ⟨w.heap.size, 0, none⟩ = some (.int .i64 x) := (cell_of_row wr _ 0 _ 31 (0, 0) hX).trans rfl
            have y1 : wr.cell? ⟨w.heap.size, 1, none⟩ = some (.int .i64 z) := (cell_of_row wr _ 1 _ 31 (0, 0) hX).trans rfl
            have hne0 : ¬ (i : Int) = 0 := by omega
            have hsub : IntKind.i64.wrap ((i : Int) - 1) = (e : Int) := by rw [IntKind.wrap_i64]; omega
            have hee : (e : Int) < (i : Int) := by omega
            have d1 : ((i : Int) == 0) = false := beq_false_of_ne hne0
            clear hcs hTe hX HC Hlast HA he
            go_wp2_with fail
            go_big_quiet (fail)
            have R := HE.out nq
            clear HE
            go_wp2
            exact R
end Go.Proofs.Ytokjbjfpgjincaa
