/-
  The ladder's addNear, Tasks and Needs.
-/
import Derived.Test.YtokjbjfpgjincaaPmay
import Derived.Test.YtokjbjfpgjincaaLgnear
import Derived.Test.YtokjbjfpgjincaaLneed
set_option maxRecDepth 20000
namespace Go.Proofs.Ytokjbjfpgjincaa
open Go.RowKit

theorem cell_three_two (W : World) (o : Obj) (u v y : Value) : ∀ (j : Nat) (x : Value), [u, v, y][j]? = some x → ((W.alloc o).alloc (.cells #[u, v, y] 37)).cell? (Addr.add ⟨W.heap.size + 1, 0, none⟩ j) = some x := by
  intro j x h
  have := cell_three_new (W.alloc o) 37 u v y j x h
  rwa [World.size_alloc] at this
set_option maxHeartbeats 1000000 in
theorem addNear_c (w1 : World) (a1 : Option Addr) (n1 c1 : Nat) (T : List Tk) (s x z r : Int) (w : World) (hT : Tw w1 a1 c1 n1 T w) (hn1 : n1 ≤ 100000) (hx : Far 2199023255560 x) (hz : Far 2199023255560 z) :
    Calls Try.prog 28 #[.slice a1 n1 c1, .int .i64 s, .agg #[.int .i64 x, .int .i64 z], .int .i64 r] w fun e w' => ∃ a' n' c', e = .returned (.slice a' n' c') ∧ Tw w1 a' c' n' (T ++ (nrL x z r).map (tkOf s)) w' ∧ n' ≤ n1 + 289 := by
  obtain ⟨Post, hPost⟩ : ∃ Post : Ending → World → Prop, Post = fun e w' => ∃ a' n' c', e = .returned (.slice a' n' c') ∧ Tw w1 a' c' n' (T ++ (nrL x z r).map (tkOf s)) w' ∧ n' ≤ n1 + 289 := ⟨_, rfl⟩
  rw [← hPost]
  have HP : Hid (∀ a' n' c' w', Tw w1 a' c' n' (T ++ (nrL x z r).map (tkOf s)) w' → n' ≤ n1 + 289 → Post (.returned (.slice a' n' c')) w') := fun a' n' c' w' h1 h2 => by rw [hPost]; exact ⟨a', n', c', rfl, h1, h2⟩
  clear hPost
  have Hx : Hid (Far 2199023255560 x) := hx
  have Hz : Hid (Far 2199023255560 z) := hz
  have HT0 : Hid (Tw w1 a1 c1 n1 T (w.alloc (.cells #[.int .i64 x, .int .i64 z] 31))) := ⟨hT.own.alloc _, hT.len, hT.bel.alloc hT.bel.size _⟩
  clear hT hx hz
  go_enter Try.func28, Try.ntmps28
  go_wp2_with fail
  generalize w.alloc (.cells #[.int .i64 x, .int .i64 z] 31) = w2 at *
  refine (gnear_c x z r w2 Hx.out Hz.out).mono ?_
  rintro _ w3 ⟨hb3, na, nc, rfl, hA, h289⟩
  have HA : Hid (OwnA w3 w2.heap.size na nc (nrL x z r)) := hA
  have HT3 : Hid (Tw w1 a1 c1 n1 T w3) := ⟨ownsRow_on HT0.out.own hb3, HT0.out.len, HT0.out.bel.trans (hb3.mono HT0.out.bel.size)⟩
  clear hb3 hA HT0
  generalize nrL x z r = NR at *
  obtain ⟨p, hp⟩ : ∃ p, p = NR.length := ⟨_, rfl⟩
  rw [← hp] at h289 ⊢
  have Hp : Hid (p = NR.length) := hp
  clear hp
  go_wp2_with fail
  go_loopw [0, 15] (fun v y wr => ∃ (j : Nat) (a' : Option Addr) (c' n' : Nat), y = .int .i64 (j : Int) ∧ j ≤ p ∧ v = .slice a' n' c' ∧ Hid (n' = n1 + j) ∧ Hid (Tw w1 a' c' n' (T ++ (NR.take j).map (tkOf s)) wr) ∧ Hid (OwnA wr w2.heap.size na nc NR)) (fun _ y _ => p - (intOf y).toNat)
  case atStart => exact ⟨0, a1, c1, n1, by go_num, Nat.zero_le _, rfl, (rfl : n1 = n1 + 0), (show Tw _ _ _ _ _ _ by rw [List.take_zero, List.map_nil, List.append_nil]; exact HT3.out), HA⟩
  case round =>
    clear HT3 HA
    obtain ⟨j, a2, c2, n2, rfl, hj, rfl, hn2, HT, HA⟩ := hrel
    by_cases hjp : j < p
    · have hjp' : (j : Int) < (p : Int) := by omega
      have hjl : j < NR.length := by rw [← Hp.out]; exact hjp
      obtain ⟨nb, no, rfl, hcs⟩ : ∃ b off, na = some ⟨b, off, none⟩ ∧ ∀ k (h : k < NR.length), AtIn wr b off k NR[k] := by
        rcases HA.out.ats with h | h
        · rw [h] at hjl; simp at hjl
        · exact h
      have d0 := (hcs j hjl).c0
      have d1 := (hcs j hjl).c1
      have etk : NR.take (j + 1) = NR.take j ++ [NR[j]] := List.take_succ_eq_append_getElem hjl
      obtain ⟨⟨u, v⟩, huv⟩ : ∃ y, NR[j] = y := ⟨_, rfl⟩
      rw [huv] at d0 d1 etk
      simp only at d0 d1
      have HTn : Hid (T ++ (NR.take (j + 1)).map (tkOf s) = (T ++ (NR.take j).map (tkOf s)) ++ [(s, u, v)]) := by
        show _ = _
        rw [etk, List.map_append, List.append_assoc]
        rfl
      generalize T ++ (NR.take j).map (tkOf s) = T1 at *
      have HO2 : Hid (OwnT ((wr.alloc (.cells #[.int .i64 u, .int .i64 v] 31)).alloc (.cells #[.int .i64 s, .int .i64 u, .int .i64 v] 37)) w1.heap.size a2 c2 T1) := (HT.out.own.alloc _).alloc _
      have HB2 : Hid (Below w1.heap.size w1 ((wr.alloc (.cells #[.int .i64 u, .int .i64 v] 31)).alloc (.cells #[.int .i64 s, .int .i64 u, .int .i64 v] 37))) := (HT.out.bel.alloc HT.out.bel.size _).alloc (HT.out.bel.alloc HT.out.bel.size _).size _
      have HK2 : Hid (Kp wr ((wr.alloc (.cells #[.int .i64 u, .int .i64 v] 31)).alloc (.cells #[.int .i64 s, .int .i64 u, .int .i64 v] 37))) := (Kp.of_below ((Below.refl _ _).alloc (Nat.le_refl _) _)).trans (Kp.of_below ((Below.refl _ _).alloc (Nat.le_refl _) _))
      have y0 : (wr.alloc (.cells #[.int .i64 u, .int .i64 v] 31)).cell? ⟨wr.heap.size, 0, none⟩ = some (.int .i64 u) := (cell_of_row _ _ 0 _ 31 (0, 0) (heap_alloc_new wr _)).trans rfl
      have y1 : (wr.alloc (.cells #[.int .i64 u, .int .i64 v] 31)).cell? ⟨wr.heap.size, 1, none⟩ = some (.int .i64 v) := (cell_of_row _ _ 1 _ 31 (0, 0) (heap_alloc_new wr _)).trans rfl
      have Hl2 : Hid (T1.length = n2) := HT.out.len
      have Hws : Hid (w1.heap.size ≤ wr.heap.size) := HT.out.bel.size
      have hle : n2 ≤ 1000000 := by have := hn2.out; omega
      have Hn3 : Hid (n2 + 1 = n1 + (j + 1)) := by have := hn2.out; show _ = _; omega
      clear HT hcs huv etk HP
      go_wp2_with (at_builtin; refine wpList_append_tk rfl _ _ rfl w1.heap.size a2 n2 c2 T1 Hl2.out rfl HO2.out ⟨wr.heap.size + 1, 0, none⟩ (s, u, v) rfl (cell_three_two _ _ _ _ _) hle w1 HB2.out (by have := Hws.out; simp; omega) ?_; intro a3 c3 w4 HO3 hb3 hkp)
      have HT5 : Hid (Tw w1 a3 c3 (n2 + 1) (T ++ (NR.take (j + 1)).map (tkOf s)) w4) := ⟨by rw [HTn.out]; exact HO3.out, by rw [HTn.out, List.length_append, Hl2.out]; rfl, hb3⟩
      have HA5 : Hid (OwnA w4 w2.heap.size (some ⟨nb, no, none⟩) nc NR) := (HK2.out.trans hkp).ownA HA.out
      clear HO3 hb3 hkp HO2 HB2 HK2 Hl2 HTn HA d0 d1 y0 y1
      go_wp2
      go_roundw
      case rel => exact ⟨j + 1, a3, c3, n2 + 1, by go_num, by omega, rfl, Hn3, HT5, HA5⟩
      case measure => simp [intOf]; omega
    · obtain rfl : j = p := by omega
      have hge : ¬ (j : Int) < (j : Int) := by omega
      have hT5 : Tw w1 a2 c2 n2 (T ++ NR.map (tkOf s)) wr := by have := HT.out; rw [List.take_of_length_le (by rw [← Hp.out]; exact Nat.le_refl _)] at this; exact this
      have R := HP.out a2 n2 c2 wr hT5 (by have := hn2.out; omega)
      clear HT HA HP hT5
      go_wp2
      exact R
set_option maxHeartbeats 1000000 in
theorem tasksP_c (a : Option Addr) (n c : Nat) (L : List Rn) (k x z : Int) (w : World) (hR : RgAt w a L) (hn : L.length = n) (hle : n ≤ maxLen) (hk : I64 k) (hx : Far 1099511627776 x) (hz : Far 1099511627776 z) :
    Calls Try.prog 17 #[.slice a n c, .int .i64 k, .agg #[.int .i64 x, .int .i64 z]] w fun e w' => Below w.heap.size w w' ∧ ∃ a' c', e = .returned (.slice a' (tasksL (lad L) k x z).length c') ∧ TksAt w' a' (tasksL (lad L) k x z) := by
  obtain ⟨Post, hPost⟩ : ∃ Post : Ending → World → Prop, Post = fun e w' => Below w.heap.size w w' ∧ ∃ a' c', e = .returned (.slice a' (tasksL (lad L) k x z).length c') ∧ TksAt w' a' (tasksL (lad L) k x z) := ⟨_, rfl⟩
  rw [← hPost]
  have HP : Hid (∀ a' c' m w', m = (tasksL (lad L) k x z).length → Below w.heap.size w w' → TksAt w' a' (tasksL (lad L) k x z) → Post (.returned (.slice a' m c')) w') := fun a' c' m w' h1 h2 h3 => by rw [hPost]; subst h1; exact ⟨h2, a', c', rfl, h3⟩
  clear hPost
  have HR : Hid (RgAt w a L) := hR
  have Hn : Hid (L.length = n) := hn
  have Hk : Hid (I64 k) := hk
  have Hx : Hid (Far 2199023255560 x) := ⟨by have := hx.1; omega, by have := hx.2; omega⟩
  have Hz : Hid (Far 2199023255560 z) := ⟨by have := hz.1; omega, by have := hz.2; omega⟩
  have h16 : (radL (lad L) k).length ≤ 16 := by
    unfold radL
    split
    · rename_i h
      rw [spreadL_len]
      exact (st_iff.1 h).1.f.n
    · simp
  clear hR hn hk hx hz
  have Hb0 : Hid (Below w.heap.size w (w.alloc (.cells #[.int .i64 x, .int .i64 z] 31))) := (Below.refl _ _).alloc (Nat.le_refl _) _
  have HX0 : Hid ((w.alloc (.cells #[.int .i64 x, .int .i64 z] 31)).heap[w.heap.size]? = some (.cells #[.int .i64 x, .int .i64 z] 31 (0, 0))) := heap_alloc_new w (.cells #[.int .i64 x, .int .i64 z] 31)
  go_enter Try.func17, Try.ntmps17
  go_wp2_with fail
  have hsz : (w.alloc (.cells #[.int .i64 x, .int .i64 z] 31)).heap.size = w.heap.size + 1 := by simp
  generalize w.alloc (.cells #[.int .i64 x, .int .i64 z] 31) = w0 at *
  refine (radii_c a n c L k w0 (HR.out.on Hb0.out) Hn.out hle Hk.out).mono ?_
  rintro _ w1 ⟨hb1, ra, rc, rfl, hI, _⟩
  have HI : Hid (IntsAt w1 ra (radL (lad L) k)) := hI
  have Hb1 : Hid (Below w0.heap.size w0 w1) := hb1
  have hsz1 : w.heap.size < w1.heap.size := by have := hb1.size; omega
  have HX1 : Hid (w1.heap[w.heap.size]? = some (.cells #[.int .i64 x, .int .i64 z] 31 (0, 0))) := (hb1.block _ (by omega)).trans HX0.out
  have HTL : Hid (tasksL (lad L) k x z = tasksF x z 0 (radL (lad L) k)) := rfl
  have Hrng : Hid (∀ v ∈ radL (lad L) k, -1 ≤ v ∧ v ≤ 8) := fun v hv => radL_rng hv
  generalize tasksL (lad L) k x z = TL at *
  generalize radL (lad L) k = rs at *
  obtain ⟨m, hm⟩ : ∃ m, m = rs.length := ⟨_, rfl⟩
  rw [← hm] at h16 ⊢
  have Hm : Hid (m = rs.length) := hm
  clear hm hI hb1 HX0
  go_wp2_with fail
  go_loopw [7, 14] (fun v y wr => ∃ (i : Nat) (a' : Option Addr) (c' n' : Nat) (T : List Tk), y = .int .i64 (i : Int) ∧ i ≤ m ∧ v = .slice a' n' c' ∧ n' ≤ i * 289 ∧ Hid (Tw w1 a' c' n' T wr) ∧ Hid (T ++ tasksF x z i (rs.drop i) = TL)) (fun _ y _ => m - (intOf y).toNat)
  case atStart => exact ⟨0, none, 0, 0, [], by go_num, Nat.zero_le _, rfl, by omega, ⟨World.ownsRow_nil _ _ _ _, rfl, Below.refl _ _⟩, HTL.out.symm⟩
  case round =>
    obtain ⟨i, a1, c1, n1, T, rfl, hi, rfl, hn1, HT, HE⟩ := hrel
    by_cases hlt : i < m
    · have hlt' : (i : Int) < (m : Int) := by omega
      have hil : i < rs.length := by rw [← Hm.out]; exact hlt
      obtain ⟨rb, ro, rfl, hcs⟩ : ∃ b off, ra = some ⟨b, off, none⟩ ∧ ∀ j (h : j < rs.length), wr.cell? ⟨b, off + j, none⟩ = some (.int .i64 rs[j]) := by
        rcases HI.out.on HT.out.bel with h | h
        · rw [h] at hil; simp at hil
        · exact h
      have q0 := hcs i hil
      obtain ⟨hv1, hv8⟩ := Hrng.out rs[i] (List.getElem_mem hil)
      have HE2 : Hid (T ++ ((nrL x z rs[i]).map (tkOf (i : Int)) ++ tasksF x z (i + 1) (rs.drop (i + 1))) = TL) := by rw [← tasksF_drop hil]; exact HE
      have hX := (HT.out.bel.block w.heap.size (by omega)).trans HX1.out
      have y0 : wr.cell? ⟨w.heap.size, 0, none⟩ = some (.int .i64 x) := (cell_of_row wr _ 0 _ 31 (0, 0) hX).trans rfl
      have y1 : wr.cell? ⟨w.heap.size, 1, none⟩ = some (.int .i64 z) := (cell_of_row wr _ 1 _ 31 (0, 0) hX).trans rfl
      generalize rs[i] = V at *
      clear HP hcs HE hX
      by_cases h0 : 0 ≤ V
      · have hne : ¬ V = -1 := by omega
        go_wp2_with fail
        refine (addNear_c w1 a1 n1 c1 T (i : Int) x z V wr HT.out (by omega) Hx.out Hz.out).mono ?_
        rintro _ w2 ⟨a2, n2, c2, rfl, hT2, hn2⟩
        have HT2 : Hid (Tw w1 a2 c2 n2 (T ++ (nrL x z V).map (tkOf (i : Int))) w2) := hT2
        have HE5 : Hid ((T ++ (nrL x z V).map (tkOf (i : Int))) ++ tasksF x z (i + 1) (rs.drop (i + 1)) = TL) := by show _ = _; rw [List.append_assoc]; exact HE2.out
        clear HT HE2 hT2 q0 y0 y1
        go_wp2
        go_roundw
        case rel => first | exact ⟨i + 1, by go_num, by omega, a2, c2, n2, ⟨rfl, rfl, rfl⟩, by omega, _, HT2, HE5⟩ | exact ⟨i + 1, a2, c2, n2, _, by go_num, by omega, rfl, by omega, HT2, HE5⟩
        case measure => simp [intOf]; omega
      · obtain rfl : V = -1 := by omega
        have HE5 : Hid (T ++ tasksF x z (i + 1) (rs.drop (i + 1)) = TL) := by
          have e : nrL x z (-1) = [] := by unfold nrL; rw [if_neg (by omega)]
          have := HE2.out
          rw [e, List.map_nil, List.nil_append] at this
          exact this
        clear HE2 y0 y1
        go_wp2
        go_roundw
        case rel => first | exact ⟨i + 1, by go_num, by omega, a1, c1, n1, ⟨rfl, rfl, rfl⟩, by omega, _, HT, HE5⟩ | exact ⟨i + 1, a1, c1, n1, _, by go_num, by omega, rfl, by omega, HT, HE5⟩
        case measure => simp [intOf]; omega
    · obtain rfl : i = m := by omega
      have hge : ¬ (i : Int) < (i : Int) := by omega
      have eT : T = TL := by have := HE.out; rw [List.drop_of_length_le (by rw [← Hm.out]; exact Nat.le_refl _), tasksF, List.append_nil] at this; exact this
      have R := HP.out a1 c1 n1 wr (by rw [← eT]; exact HT.out.len.symm) (Hb0.out.trans ((Hb1.out.trans (HT.out.bel.mono Hb1.out.size)).mono Hb0.out.size)) (by rw [← eT]; exact HT.out.own.tks)
      clear HP eT HE HT
      go_wp2
      exact R
set_option maxHeartbeats 1000000 in
theorem needs_c (a : Option Addr) (n c : Nat) (L : List Rn) (k x z : Int) (w : World) (hR : RgAt w a L) (hn : L.length = n) (hle : n ≤ maxLen) (hk : I64 k) (hx : Far 2199023255552 x) (hz : Far 2199023255552 z) :
    Calls Try.prog 19 #[.slice a n c, .agg #[.int .i64 k, .int .i64 x, .int .i64 z]] w fun e w' => Below w.heap.size w w' ∧ ∃ a' c', e = .returned (.slice a' (needsL (lad L) (k, x, z)).length c') ∧ TksAt w' a' (needsL (lad L) (k, x, z)) := by
  obtain ⟨Post, hPost⟩ : ∃ Post : Ending → World → Prop, Post = fun e w' => Below w.heap.size w w' ∧ ∃ a' c', e = .returned (.slice a' (needsL (lad L) (k, x, z)).length c') ∧ TksAt w' a' (needsL (lad L) (k, x, z)) := ⟨_, rfl⟩
  rw [← hPost]
  have HP : Hid (∀ a' c' m w', m = (needsL (lad L) (k, x, z)).length → Below w.heap.size w w' → TksAt w' a' (needsL (lad L) (k, x, z)) → Post (.returned (.slice a' m c')) w') := fun a' c' m w' h1 h2 h3 => by rw [hPost]; subst h1; exact ⟨h2, a', c', rfl, h3⟩
  clear hPost
  have HR : Hid (RgAt w a L) := hR
  have Hn : Hid (L.length = n) := hn
  have Hk : Hid (I64 k) := hk
  have Hx : Hid (Far 2199023255560 x) := ⟨by have := hx.1; omega, by have := hx.2; omega⟩
  have Hz : Hid (Far 2199023255560 z) := ⟨by have := hz.1; omega, by have := hz.2; omega⟩
  clear hR hn hk hx hz
  have Hb0 : Hid (Below w.heap.size w (w.alloc (.cells #[.int .i64 k, .int .i64 x, .int .i64 z] 37))) := (Below.refl _ _).alloc (Nat.le_refl _) _
  have HX0 : Hid ((w.alloc (.cells #[.int .i64 k, .int .i64 x, .int .i64 z] 37)).heap[w.heap.size]? = some (.cells #[.int .i64 k, .int .i64 x, .int .i64 z] 37 (0, 0))) := heap_alloc_new w (.cells #[.int .i64 k, .int .i64 x, .int .i64 z] 37)
  have y0 : (w.alloc (.cells #[.int .i64 k, .int .i64 x, .int .i64 z] 37)).cell? ⟨w.heap.size, 0, none⟩ = some (.int .i64 k) := (cell_of_row _ _ 0 _ 37 (0, 0) HX0.out).trans rfl
  go_enter Try.func19, Try.ntmps19
  go_wp2_with fail
  have hsz : (w.alloc (.cells #[.int .i64 k, .int .i64 x, .int .i64 z] 37)).heap.size = w.heap.size + 1 := by simp
  generalize w.alloc (.cells #[.int .i64 k, .int .i64 x, .int .i64 z] 37) = w0 at *
  refine (has_c a n c L k w0 (HR.out.on Hb0.out) Hn.out hle Hk.out).mono ?_
  rintro _ w1 ⟨rfl, hb1⟩
  have Hbw : Hid (Below w.heap.size w w1) := Hb0.out.trans (hb1.mono Hb0.out.size)
  have hsz1 : w.heap.size < w1.heap.size := by have := hb1.size; omega
  have HX1 : Hid (w1.heap[w.heap.size]? = some (.cells #[.int .i64 k, .int .i64 x, .int .i64 z] 37 (0, 0))) := (hb1.block _ (by omega)).trans HX0.out
  clear hb1 HX0 y0
  cases hst : stB (lad L) k with
  | false =>
    have e : needsL (lad L) (k, x, z) = [] := by unfold needsL; rw [hst]; rfl
    have R := HP.out none 0 0 w1 (by rw [e]; rfl) Hbw.out (.inl e)
    clear HP e hst
    go_wp2
    exact R
  | true =>
    obtain ⟨hM, h0, h1⟩ := st_iff.1 hst
    rw [lad_len, Hn.out] at h1
    obtain ⟨K, rfl⟩ := Int.eq_ofNat_of_zero_le h0
    have hKn : K < n := by omega
    have hil : K < L.length := by rw [Hn.out]; exact hKn
    have e : needsL (lad L) ((K : Int), x, z) = needsF x z L[K].r := by unfold needsL; rw [if_pos hst]; simp only [Int.toNat_natCast]; rw [lad_at L K hil]
    have hF := hM.f
    have Hok : Hid (∀ y ∈ L[K].r, readOk K y) := fun y hy => hF.ok K y (by rw [lad_at L K hil]; exact hy)
    have hm16 : L[K].r.length ≤ 16 := by have := hF.m _ (getD_mem (l := lad L) (i := K) (by rw [lad_len]; exact hil)); rwa [lad_at L K hil] at this
    have HTL : Hid (needsL (lad L) ((K : Int), x, z) = needsF x z L[K].r) := e
    obtain ⟨b, off, rfl, hin⟩ := (HR.out.on Hbw.out) K hil
    have c0 := hin.c0
    have Hrd : Hid (RdAt w1 L[K].a L[K].r) := hin.rd
    clear e hF hst hM hin
    generalize needsL (lad L) ((K : Int), x, z) = TL at *
    generalize L[K].a = ra at *
    generalize L[K].c = rc at *
    generalize L[K].r = rs at *
    obtain ⟨m, hm⟩ : ∃ m, m = rs.length := ⟨_, rfl⟩
    rw [← hm] at c0 hm16
    have Hm : Hid (m = rs.length) := hm
    clear hm
    have hKn' : (K : Int) < (n : Int) := by omega
    have y0 : w1.cell? ⟨w.heap.size, 0, none⟩ = some (.int .i64 (K : Int)) := (cell_of_row w1 _ 0 _ 37 (0, 0) HX1.out).trans rfl
    go_wp2_with fail
    clear y0 c0
    go_loopw [5, 20] (fun v y wr => ∃ (i : Nat) (a' : Option Addr) (c' n' : Nat) (T : List Tk), y = .int .i64 (i : Int) ∧ i ≤ m ∧ v = .slice a' n' c' ∧ n' ≤ i * 289 ∧ Hid (Tw w1 a' c' n' T wr) ∧ Hid (T ++ needsF x z (rs.drop i) = TL)) (fun _ y _ => m - (intOf y).toNat)
    case atStart => exact ⟨0, none, 0, 0, [], by go_num, Nat.zero_le _, rfl, by omega, ⟨World.ownsRow_nil _ _ _ _, rfl, Below.refl _ _⟩, HTL.out.symm⟩
    case round =>
      obtain ⟨i, a1, c1, n1, T, rfl, hi, rfl, hn1, HT, HE⟩ := hrel
      by_cases hlt : i < m
      · have hlt' : (i : Int) < (m : Int) := by omega
        have hil2 : i < rs.length := by rw [← Hm.out]; exact hlt
        obtain ⟨rb, ro, rfl, hx⟩ := (Hrd.out.on HT.out.bel) i hil2
        have x0 := hx.c0
        have x1 := hx.c1
        obtain ⟨k1, k2, k3, k4⟩ := Hok.out rs[i] (List.getElem_mem hil2)
        have HE2 : Hid (T ++ ((nrL x z rs[i].2).map (tkOf rs[i].1) ++ needsF x z (rs.drop (i + 1))) = TL) := by rw [← needsF_drop hil2]; exact HE
        obtain ⟨⟨s, q⟩, hsq⟩ : ∃ y, rs[i] = y := ⟨_, rfl⟩
        rw [hsq] at x0 x1 k1 k2 k3 k4 HE2
        simp only at x0 x1 k1 k2 k3 k4 HE2
        clear hsq hx HE HP
        have Hba : Hid (Below wr.heap.size wr (wr.alloc (.cells #[.int .i64 s, .int .i64 q] 45))) := (Below.refl _ _).alloc (Nat.le_refl _) _
        have hXX := heap_alloc_new wr (.cells #[.int .i64 s, .int .i64 q] 45)
        have HT1 : Hid (Tw w1 a1 c1 n1 T (wr.alloc (.cells #[.int .i64 s, .int .i64 q] 45))) := ⟨HT.out.own.alloc _, HT.out.len, HT.out.bel.alloc HT.out.bel.size _⟩
        have hX := (HT1.out.bel.block w.heap.size (by omega)).trans HX1.out
        have g1 : (wr.alloc (.cells #[.int .i64 s, .int .i64 q] 45)).cell? ⟨w.heap.size, 1, none⟩ = some (.int .i64 x) := (cell_of_row _ _ 1 _ 37 (0, 0) hX).trans rfl
        have g2 : (wr.alloc (.cells #[.int .i64 s, .int .i64 q] 45)).cell? ⟨w.heap.size, 2, none⟩ = some (.int .i64 z) := (cell_of_row _ _ 2 _ 37 (0, 0) hX).trans rfl
        have g3 : (wr.alloc (.cells #[.int .i64 s, .int .i64 q] 45)).cell? ⟨wr.heap.size, 0, none⟩ = some (.int .i64 s) := (cell_of_row _ _ 0 _ 45 (0, 0) hXX).trans rfl
        have g4 : (wr.alloc (.cells #[.int .i64 s, .int .i64 q] 45)).cell? ⟨wr.heap.size, 1, none⟩ = some (.int .i64 q) := (cell_of_row _ _ 1 _ 45 (0, 0) hXX).trans rfl
        clear HT hX hXX Hba
        go_wp2_with fail
        generalize wr.alloc (.cells #[.int .i64 s, .int .i64 q] 45) = w2 at *
        refine (addNear_c w1 a1 n1 c1 T s x z q w2 HT1.out (by omega) Hx.out Hz.out).mono ?_
        rintro _ w3 ⟨a2, n2, c2, rfl, hT2, hn2⟩
        have HT2 : Hid (Tw w1 a2 c2 n2 (T ++ (nrL x z q).map (tkOf s)) w3) := hT2
        have HE5 : Hid ((T ++ (nrL x z q).map (tkOf s)) ++ needsF x z (rs.drop (i + 1)) = TL) := by show _ = _; rw [List.append_assoc]; exact HE2.out
        clear HT1 HE2 hT2 x0 x1 g1 g2 g3 g4
        go_wp2
        go_roundw
        case rel => first | exact ⟨i + 1, by go_num, by omega, a2, c2, n2, ⟨rfl, rfl, rfl⟩, by omega, _, HT2, HE5⟩ | exact ⟨i + 1, a2, c2, n2, _, by go_num, by omega, rfl, by omega, HT2, HE5⟩
        case measure => simp [intOf]; omega
      · obtain rfl : i = m := by omega
        have hge : ¬ (i : Int) < (i : Int) := by omega
        have eT : T = TL := by have := HE.out; rw [List.drop_of_length_le (by rw [← Hm.out]; exact Nat.le_refl _), needsF, List.append_nil] at this; exact this
        have R := HP.out a1 c1 n1 wr (by rw [← eT]; exact HT.out.len.symm) (Hbw.out.trans (HT.out.bel.mono (by omega))) (by rw [← eT]; exact HT.out.own.tks)
        clear HP eT HE HT
        go_wp2
        exact R
end Go.Proofs.Ytokjbjfpgjincaa
