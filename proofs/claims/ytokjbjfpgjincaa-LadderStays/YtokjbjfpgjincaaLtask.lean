/-
  The document's Tasks and Needs.
-/
import Derived.Test.YtokjbjfpgjincaaLnear
set_option maxRecDepth 20000
namespace Go.Proofs.Ytokjbjfpgjincaa
open Go.RowKit

theorem radL_rng {l : Lad} {k v : Int} (h : v ∈ radL l k) : -1 ≤ v ∧ v ≤ 8 := by
  unfold radL at h
  split at h
  · rename_i hs
    have H := st_iff.1 hs
    have hkl : k.toNat < l.length := by have := H.2; omega
    refine ⟨?_, H.1.le _ hkl v h⟩
    obtain ⟨i, hi, rfl⟩ := List.mem_iff_getElem.1 h
    have := (spread_is H.1.f hkl).low i
    unfold gt at this
    rw [List.getD_eq_getElem?_getD, List.getElem?_eq_getElem hi] at this
    exact this
  · simp at h
theorem OwnT.alloc {w : World} {lo c : Nat} {a : Option Addr} {l : List Tk} (h : OwnT w lo a c l) (o : Obj) : OwnT (w.alloc o) lo a c l := World.ownsRow.alloc h o
theorem tasksF_drop {x z : Int} {rs : List Int} {i : Nat} (h : i < rs.length) : tasksF x z i (rs.drop i) = (nrL x z rs[i]).map (tkOf (i : Int)) ++ tasksF x z (i + 1) (rs.drop (i + 1)) := by
  rw [List.drop_eq_getElem_cons h, tasksF]
/-- On the way: the tasks so far. -/
structure Tw (w1 : World) (a : Option Addr) (c n : Nat) (T : List Tk) (wr : World) : Prop where
  own : OwnT wr w1.heap.size a c T
  len : T.length = n
  bel : Below w1.heap.size w1 wr
set_option maxHeartbeats 1000000 in
theorem rtasks_c (a : Option Addr) (n c : Nat) (L : List Rn) (k x z : Int) (w : World) (hR : RgAt w a L) (hn : L.length = n) (hk : I64 k) (hx : Far 1099511627776 x) (hz : Far 1099511627776 z) :
    Calls Try.prog 18 #[.slice a n c, .int .i64 k, .agg #[.int .i64 x, .int .i64 z]] w fun e w' => Below w.heap.size w w' ∧ ∃ a' c', e = .returned (.slice a' (tasksL (lad L) k x z).length c') ∧ TksAt w' a' (tasksL (lad L) k x z) := by
  obtain ⟨Post, hPost⟩ : ∃ Post : Ending → World → Prop, Post = fun e w' => Below w.heap.size w w' ∧ ∃ a' c', e = .returned (.slice a' (tasksL (lad L) k x z).length c') ∧ TksAt w' a' (tasksL (lad L) k x z) := ⟨_, rfl⟩
  rw [← hPost]
  have HP : Hid (∀ a' c' m w', m = (tasksL (lad L) k x z).length → Below w.heap.size w w' → TksAt w' a' (tasksL (lad L) k x z) → Post (.returned (.slice a' m c')) w') := fun a' c' m w' h1 h2 h3 => by rw [hPost]; subst h1; exact ⟨h2, a', c', rfl, h3⟩
  clear hPost
  have HR : Hid (RgAt w a L) := hR
  have Hn : Hid (L.length = n) := hn
  have Hk : Hid (I64 k) := hk
  have Hx : Hid (Far 2199023255560 x) := ⟨by have := hx.1; omega, by have := hx.2; omega⟩
  have Hz : Hid (Far 2199023255560 z) := ⟨by have := hz.1; omega, by have := hz.2; omega⟩
  clear hR hn hk hx hz
  have Hb0 : Hid (Below w.heap.size w (w.alloc (.cells #[.int .i64 x, .int .i64 z] 31))) := (Below.refl _ _).alloc (Nat.le_refl _) _
  have HX0 : Hid ((w.alloc (.cells #[.int .i64 x, .int .i64 z] 31)).heap[w.heap.size]? = some (.cells #[.int .i64 x, .int .i64 z] 31 (0, 0))) := heap_alloc_new w (.cells #[.int .i64 x, .int .i64 z] 31)
  go_enter Try.func18, Try.ntmps18
  go_wp2_with fail
  have hsz : (w.alloc (.cells #[.int .i64 x, .int .i64 z] 31)).heap.size = w.heap.size + 1 := by simp
  generalize w.alloc (.cells #[.int .i64 x, .int .i64 z] 31) = w0 at *
  refine (rradii_c a n c L k w0 (HR.out.on Hb0.out) Hn.out Hk.out).mono ?_
  rintro _ w1 ⟨hb1, ra, rc, rfl, hI, h16⟩
  have HI : Hid (IntsAt w1 ra (radL (lad L) k)) := hI
  have Hb1 : Hid (Below w0.heap.size w0 w1) := hb1
  have hsz1 : w.heap.size < w1.heap.size := by have := hb1.size; omega
  have HX1 : Hid (w1.heap[w.heap.size]? = some (.cells #[.int .i64 x, .int .i64 z] 31 (0, 0))) := (hb1.block _ (by omega)).trans HX0.out
  have HTL : Hid (tasksL (lad L) k x z = tasksF x z 0 (radL (lad L) k)) := rfl
  have Hrng : Hid (∀ v ∈ radL (lad L) k, -1 ≤ v ∧ v ≤ 8) := fun v hv => radL_rng hv
  generalize tasksL (lad L) k x z = TL at *
  generalize radL (lad L) k = rs at *
  obtain ⟨m, hm⟩ : ∃ m, m = rs.length := ⟨_, rfl⟩
  rw [← hm] at h16 ⊢
  have Hm : Hid (m = rs.length) := hm
  clear hm hI hb1 HX0
  go_wp2_with fail
  go_loopw [8, 9] (fun v y wr => ∃ (i : Nat) (a' : Option Addr) (c' n' : Nat) (T : List Tk), y = .int .i64 (i : Int) ∧ i ≤ m ∧ v = .slice a' n' c' ∧ n' ≤ i * 289 ∧ Hid (Tw w1 a' c' n' T wr) ∧ Hid (T ++ tasksF x z i (rs.drop i) = TL)) (fun _ y _ => m - (intOf y).toNat)
  case atStart => exact ⟨0, none, 0, 0, [], by go_num, Nat.zero_le _, rfl, by omega, ⟨World.ownsRow_nil _ _ _ _, rfl, Below.refl _ _⟩, HTL.out.symm⟩
  case round =>
    obtain ⟨i, a1, c1, n1, T, rfl, hi, rfl, hn1, HT, HE⟩ := hrel
    by_cases hlt : i < m
    · have hlt' : (i : Int) < (m : Int) := by omega
      have hil : i < rs.length := by rw [← Hm.out]; exact hlt
      obtain ⟨rb, ro, rfl, hcs⟩ : ∃ b off, ra = some ⟨b, off, none⟩ ∧ ∀ j (h : j < rs.length), wr.cell? ⟨b, off + j, none⟩ = some (.int .i64 rs[j]) := by
        rcases HI.out.on HT.out.bel with h | h
        · rw [h] at hil; simp at hil
        · exact h
      have q0 := hcs i hil
      obtain ⟨hv1, hv8⟩ := Hrng.out rs[i] (List.getElem_mem hil)
      have HE2 : Hid (T ++ ((nrL x z rs[i]).map (tkOf (i : Int)) ++ tasksF x z (i + 1) (rs.drop (i + 1))) = TL) := by rw [← tasksF_drop hil]; exact HE
      have hX := (HT.out.bel.block w.heap.size (by omega)).trans HX1.out
      have y0 : wr.cell? ⟨w.heap.size, 0, none⟩ = some (.int .i64 x) := (cell_of_row wr _ 0 _ 31 (0, 0) hX).trans rfl
      have y1 : wr.cell? ⟨w.heap.size, 1, none⟩ = some (.int .i64 z) := (cell_of_row wr _ 1 _ 31 (0, 0) hX).trans rfl
      have HT2 : Hid (Tw w1 a1 c1 n1 T (wr.drewN 1)) := ⟨HT.out.own, HT.out.len, below_drewN HT.out.bel 1⟩
      have q0' : (wr.drewN 1).cell? ⟨rb, ro + i, none⟩ = some (.int .i64 rs[i]) := q0
      have y0' : (wr.drewN 1).cell? ⟨w.heap.size, 0, none⟩ = some (.int .i64 x) := y0
      have y1' : (wr.drewN 1).cell? ⟨w.heap.size, 1, none⟩ = some (.int .i64 z) := y1
      generalize rs[i] = R at *
      clear HP hcs HE HT hX q0 y0 y1
      go_wp2_with fail
      refine wp_region_tail 5 (by kernel_rfl) (by kernel_rfl) ?_
      generalize wr.drewN 1 = w2 at *
      simp only [List.take_succ_cons, List.take_zero, List.drop_succ_cons, List.drop_zero]
      repeat still_step
      refine wpStill_nil ?_
      go_wp2_with fail
      refine (rnear_c x z R w2 Hx.out Hz.out ⟨by omega, by omega⟩).mono ?_
      rintro _ w3 ⟨hb3, na, nc, rfl, hA, h289⟩
      have HA : Hid (OwnA w3 w2.heap.size na nc (nrL x z R)) := hA
      have HT3 : Hid (Tw w1 a1 c1 n1 T w3) := ⟨ownsRow_on HT2.out.own hb3, HT2.out.len, HT2.out.bel.trans (hb3.mono HT2.out.bel.size)⟩
      clear hb3 hA HT2 q0' y0' y1'
      generalize nrL x z R = NR at *
      obtain ⟨p, hp⟩ : ∃ p, p = NR.length := ⟨_, rfl⟩
      rw [← hp] at h289 ⊢
      have Hp : Hid (p = NR.length) := hp
      clear hp
      go_wp2_with fail
      go_loopw [8, 11] (fun v y wr => ∃ (j : Nat) (a' : Option Addr) (c' n' : Nat), y = .int .i64 (j : Int) ∧ j ≤ p ∧ v = .slice a' n' c' ∧ Hid (n' = n1 + j) ∧ Hid (Tw w1 a' c' n' (T ++ (NR.take j).map (tkOf (i : Int))) wr) ∧ Hid (OwnA wr w2.heap.size na nc NR)) (fun _ y _ => p - (intOf y).toNat)
      case atStart => exact ⟨0, a1, c1, n1, by go_num, Nat.zero_le _, rfl, (rfl : n1 = n1 + 0), (show Tw _ _ _ _ _ _ by rw [List.take_zero, List.map_nil, List.append_nil]; exact HT3.out), HA⟩
      case round =>
        clear HT3 HA
        obtain ⟨j, a2, c2, n2, rfl, hj, rfl, hn2, HT, HA⟩ := hrel
        by_cases hjp : j < p
        · have hjp' : (j : Int) < (p : Int) := by omega
          have hjl : j < NR.length := by rw [← Hp.out]; exact hjp
          obtain ⟨nb, no, rfl, hcs⟩ : ∃ b off, na = some ⟨b, off, none⟩ ∧ ∀ k (h : k < NR.length), AtIn wr b off k NR[k] := by
            rcases HA.out.ats with h | h
            · rw [h] at hjl; simp at hjl
            · exact h
          have d0 := (hcs j hjl).c0
          have d1 := (hcs j hjl).c1
          have etk : NR.take (j + 1) = NR.take j ++ [NR[j]] := List.take_succ_eq_append_getElem hjl
          obtain ⟨⟨u, v⟩, huv⟩ : ∃ y, NR[j] = y := ⟨_, rfl⟩
          rw [huv] at d0 d1 etk
          simp only at d0 d1
          have HTn : Hid (T ++ (NR.take (j + 1)).map (tkOf (i : Int)) = (T ++ (NR.take j).map (tkOf (i : Int))) ++ [((i : Int), u, v)]) := by
            show _ = _
            rw [etk, List.map_append, List.append_assoc]
            rfl
          generalize T ++ (NR.take j).map (tkOf (i : Int)) = T1 at *
          have HO2 : Hid (OwnT (wr.alloc (.cells #[.int .i64 (i : Int), .int .i64 u, .int .i64 v] 37)) w1.heap.size a2 c2 T1) := HT.out.own.alloc _
          have HB2 : Hid (Below w1.heap.size w1 (wr.alloc (.cells #[.int .i64 (i : Int), .int .i64 u, .int .i64 v] 37))) := HT.out.bel.alloc HT.out.bel.size _
          have HK2 : Hid (Kp wr (wr.alloc (.cells #[.int .i64 (i : Int), .int .i64 u, .int .i64 v] 37))) := Kp.of_below ((Below.refl _ _).alloc (Nat.le_refl _) _)
          have Hl2 : Hid (T1.length = n2) := HT.out.len
          have Hws : Hid (w1.heap.size ≤ wr.heap.size) := HT.out.bel.size
          have hle : n2 ≤ 1000000 := by have := hn2.out; omega
          have Hn3 : Hid (n2 + 1 = n1 + (j + 1)) := by have := hn2.out; show _ = _; omega
          clear HT hcs huv etk HE2
          go_wp2_with (at_builtin; refine wpList_append_tk rfl _ _ rfl w1.heap.size a2 n2 c2 T1 Hl2.out rfl HO2.out ⟨wr.heap.size, 0, none⟩ ((i : Int), u, v) rfl (cell_three_new _ _ _ _ _) hle w1 HB2.out (by have := Hws.out; simp; omega) ?_; intro a3 c3 w4 HO3 hb3 hkp)
          have HT5 : Hid (Tw w1 a3 c3 (n2 + 1) (T ++ (NR.take (j + 1)).map (tkOf (i : Int))) w4) := ⟨by rw [HTn.out]; exact HO3.out, by rw [HTn.out, List.length_append, Hl2.out]; rfl, hb3⟩
          have HA5 : Hid (OwnA w4 w2.heap.size (some ⟨nb, no, none⟩) nc NR) := (HK2.out.trans hkp).ownA HA.out
          clear HO3 hb3 hkp HO2 HB2 HK2 Hl2 HTn HA d0 d1
          go_wp2
          go_roundw
          case rel => exact ⟨j + 1, a3, c3, n2 + 1, by go_num, by omega, rfl, Hn3, HT5, HA5⟩
          case measure => simp [intOf]; omega
        · obtain rfl : j = p := by omega
          have hge : ¬ (j : Int) < (j : Int) := by omega
          have HT5 : Hid (Tw w1 a2 c2 n2 (T ++ NR.map (tkOf (i : Int))) wr) := by have := HT.out; rw [List.take_of_length_le (by rw [← Hp.out]; exact Nat.le_refl _)] at this; exact this
          have HE5 : Hid ((T ++ NR.map (tkOf (i : Int))) ++ tasksF x z (i + 1) (rs.drop (i + 1)) = TL) := by show _ = _; rw [List.append_assoc]; exact HE2.out
          clear HT HE2 HA
          go_wp2
          go_roundw
          case rel => exact ⟨i + 1, a2, c2, n2, _, by go_num, by omega, rfl, by have := hn2.out; omega, HT5, HE5⟩
          case measure => simp [intOf]; omega
    · obtain rfl : i = m := by omega
      have hge : ¬ (i : Int) < (i : Int) := by omega
      have eT : T = TL := by have := HE.out; rw [List.drop_of_length_le (by rw [← Hm.out]; exact Nat.le_refl _), tasksF, List.append_nil] at this; exact this
      have R := HP.out a1 c1 n1 wr (by rw [← eT]; exact HT.out.len.symm) ((Hb0.out.trans (Hb1.out.mono Hb0.out.size)).trans (HT.out.bel.mono (by omega))) (by rw [← eT]; exact HT.out.own.tks)
      clear HP eT HE HT
      go_wp2
      exact R
end Go.Proofs.Ytokjbjfpgjincaa
