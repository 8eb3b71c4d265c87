/-
  CacheTrims, walked.
-/
import Derived.Test.YtpfhgkgkbefigaaW2
set_option maxRecDepth 20000
namespace Go.Proofs.Ytpfhgkgkbefigaa
open Go.RowKit Go.Maps

theorem getD_at {l : List (Int × Int)} {k : Nat} (h : k < l.length) : l.getD k (0, 0) = l[k] := by simp [h]
/-- The cells of chunk number k. -/
theorem Ats.at {w : World} {a : Option Addr} {l : List (Int × Int)} (h : Ats w a l) {k : Nat} (hk : k < l.length) : ∃ b off, a = some ⟨b, off, none⟩ ∧ w.cell? ⟨b, off + k * 2, none⟩ = some (.int .i64 (l.getD k (0, 0)).1) ∧ w.cell? ⟨b, off + k * 2 + 1, none⟩ = some (.int .i64 (l.getD k (0, 0)).2) := by
  rw [getD_at hk]
  exact h k hk
/-- Behind the Trim: the cache, what has gone, what is kept. -/
structure Lt (W : World) (c : Nat) (m : Int) (l : List E) (N : Nat) (ga ka : Option Addr) (gc kc : Nat) (gs ks : List (Int × Int)) (w : World) : Prop where
  ls : Ls W c m l N w
  gr : ARow W.heap.size w ga gc gs
  kr : ARow W.heap.size w ka kc ks
theorem Lt.on {W : World} {c : Nat} {m : Int} {l : List E} {N : Nat} {ga ka : Option Addr} {gc kc : Nat} {gs ks : List (Int × Int)} {w w' : World} (h : Lt W c m l N ga ka gc kc gs ks w) (hb : Below w.heap.size w w') : Lt W c m l N ga ka gc kc gs ks w' := ⟨h.ls.on hb, h.gr.below hb, h.kr.below hb⟩
theorem ats_i64 {l : List (Int × Int)} (h : ∀ q ∈ l, I64 q.1 ∧ I64 q.2) (k : Nat) : I64 (l.getD k (0, 0)).1 ∧ I64 (l.getD k (0, 0)).2 := by
  by_cases hk : k < l.length
  · rw [getD_at hk]
    exact h _ (List.getElem_mem hk)
  · rw [List.getD_eq_getElem?_getD, List.getElem?_eq_none (by omega)]
    unfold I64
    simp
theorem CS.i64 {B : Nat} {w : World} {c : Nat} {m : Int} {l : List E} {N : Nat} (h : CS B w c m l N) : ∀ g ∈ keysE l, I64 g.1 ∧ I64 g.2 := fun g hg => by
  obtain ⟨_, _, _, D, q, I, _, H⟩ := h
  obtain ⟨e, he, rfl⟩ := List.mem_map.1 hg
  rw [H.eq] at he
  obtain ⟨b, hb, rfl⟩ := List.mem_map.1 he
  exact H.cc.mi.rng b hb
theorem CS.len {B : Nat} {w : World} {c : Nat} {m : Int} {l : List E} {N : Nat} (h : CS B w c m l N) : l.length ≤ N := by
  obtain ⟨_, _, _, D, q, I, _, H⟩ := h
  rw [H.eq, List.length_map]
  exact H.ln
theorem getD_in {l : List (Int × Int)} {k : Nat} (h : k < l.length) : l.getD k (0, 0) ∈ l := by
  rw [getD_at h]
  exact List.getElem_mem h
theorem getE_none {l : List E} {x z : Int} (h : findE l x z = none) : getE l x z = l := by
  unfold getE
  rw [h]
set_option maxRecDepth 100000 in
set_option maxHeartbeats 4000000 in
theorem cacheTrims_walk (m : Int) (a_l a_p : Option Addr) (n_l c_l n_p c_p : Nat) (W : World) (I_m : I64 m) (Q_l : ∃ l : List (Int × Int), l.length = n_l ∧ Ats W a_l l ∧ ∀ q ∈ l, I64 q.1 ∧ I64 q.2) (Q_p : ∃ l : List (Int × Int), l.length = n_p ∧ Ats W a_p l ∧ ∀ q ∈ l, I64 q.1 ∧ I64 q.2) :
    Calls Try.prog 4 #[.int .i64 m, .slice a_l n_l c_l, .slice a_p n_p c_p] W fun e W' => e = .returned (.bool true) ∧ Below W.heap.size W W' := by
  obtain ⟨l, hl, Hl, Il⟩ := Q_l
  obtain ⟨ps, hp, Hp, Ip⟩ := Q_p
  obtain ⟨Post, hPost⟩ : ∃ Post : Ending → World → Prop, Post = fun e W' => e = .returned (.bool true) ∧ Below W.heap.size W W' := ⟨_, rfl⟩
  rw [← hPost]
  have HP : Hid (∀ w', Below W.heap.size W w' → Post (.returned (.bool true)) w') := fun w' h1 => by rw [hPost]; exact ⟨rfl, h1⟩
  clear hPost
  unfold I64 at I_m
  have haw := awake_c W
  go_enter Try.func4, Try.ntmps4
  go_wp2_with fail
  refine haw.mono ?_
  clear haw
  rintro _ w1 ⟨rfl, hb1⟩
  have hnew := new_any m hb1
  clear hb1
  go_wp2_with fail
  refine hnew.mono ?_
  clear hnew
  rintro _ w2 ⟨p, rfl, hb2, hno, hyes⟩
  have Hno : Hid (m < 1 → p = none) := hno
  have Hyes : Hid (1 ≤ m → ∃ c, p = some ⟨c, 0, none⟩ ∧ Ls W c m [] 0 w2) := hyes
  have R := HP.out w2 hb2
  clear hb2 hno hyes
  by_cases h1 : 100 < n_l
  · have h1' : (100 : Int) < (n_l : Int) := by omega
    clear Hno Hyes HP
    go_wp2
    exact R
  by_cases h2 : 100 < n_p
  · have h1' : ¬ (100 : Int) < (n_l : Int) := by omega
    have h2' : (100 : Int) < (n_p : Int) := by omega
    clear Hno Hyes HP
    go_wp2
    exact R
  by_cases h3 : m < 1
  · have h1' : ¬ (100 : Int) < (n_l : Int) := by omega
    have h2' : ¬ (100 : Int) < (n_p : Int) := by omega
    clear Hno Hyes HP
    go_wp2
    exact R
  obtain ⟨c, rfl, hL0⟩ := Hyes.out (by omega)
  have h1' : ¬ (100 : Int) < (n_l : Int) := by omega
  have h2' : ¬ (100 : Int) < (n_p : Int) := by omega
  have HL0 : Hid (Ls W c m (putsE l 0) 0 w2) := hL0
  have HHl : Hid (Ats W a_l l) := Hl
  have HHp : Hid (Ats W a_p ps) := Hp
  have HIl : Hid (∀ q ∈ l, I64 q.1 ∧ I64 q.2) := Il
  have HIp : Hid (∀ q ∈ ps, I64 q.1 ∧ I64 q.2) := Ip
  clear Hno Hyes hL0 R Hl Hp Il Ip
  go_wp2
  -- the Puts
  go_loopw [9] (fun vi wr => ∃ i : Nat, vi = .int .i64 (i : Int) ∧ i ≤ n_l ∧ Hid (Ls W c m (putsE l i) i wr)) (fun vi _ => n_l - (intOf vi).toNat)
  case atStart => exact ⟨0, rfl, Nat.zero_le _, HL0⟩
  case round =>
    obtain ⟨i, rfl, hi, HI⟩ := hrel
    by_cases hlt : i < n_l
    · have hlt' : (i : Int) < (n_l : Int) := by omega
      obtain ⟨b, off, rfl, k0, k1⟩ := (HHl.out.on (HI.out.below)).at (k := i) (by omega)
      have hx := ats_i64 HIl.out i
      have hput := HI.out.put (by omega) hx.1 hx.2 (i : Int)
      clear HL0 HP HI hx
      generalize hX : (l.getD i (0, 0)).1 = X at *
      generalize hZ : (l.getD i (0, 0)).2 = Z at *
      have HXZ : Hid ((l.getD i (0, 0)).1 = X ∧ (l.getD i (0, 0)).2 = Z) := ⟨hX, hZ⟩
      clear hX hZ
      go_wp2_with fail
      refine hput.mono ?_
      clear hput
      rintro _ w3 ⟨rfl, hL, _⟩
      have HL : Hid (Ls W c m (putsE l (i + 1)) (i + 1) w3) := by
        have e : putsE l (i + 1) = putE (putsE l i) X Z (i : Int) := by
          show putE (putsE l i) (l.getD i (0, 0)).1 (l.getD i (0, 0)).2 (i : Int) = _
          rw [HXZ.out.1, HXZ.out.2]
        rw [e]
        exact hL
      clear hL HXZ
      go_wp2
      go_roundw
      case rel => exact ⟨i + 1, by go_num, by omega, HL⟩
      case measure => simp [intOf]; omega
    obtain rfl : i = n_l := by omega
    have HL1 : Hid (Ls W c m (pinsE (putsE l i) ps 0).1 i wr) := HI.out
    clear HI HL0
    go_wp2
    -- the Pins
    go_loopw [10, 11] (fun vp vj wr => ∃ j : Nat, vj = .int .i64 (j : Int) ∧ vp = .int .i64 ((pinsE (putsE l i) ps j).2 : Int) ∧ j ≤ n_p ∧ (pinsE (putsE l i) ps j).2 ≤ j ∧ Hid (Ls W c m (pinsE (putsE l i) ps j).1 i wr)) (fun _ vj _ => n_p - (intOf vj).toNat)
    case atStart => exact ⟨0, rfl, rfl, Nat.zero_le _, Nat.le_refl _, HL1⟩
    case round =>
      obtain ⟨j, rfl, rfl, hj, hcj, HI⟩ := hrel
      by_cases hlt : j < n_p
      · have hlt' : (j : Int) < (n_p : Int) := by omega
        obtain ⟨b, off, rfl, k0, k1⟩ := (HHp.out.on (HI.out.below)).at (k := j) (by omega)
        have hx := ats_i64 HIp.out j
        have hpin := HI.out.pin hx.1 hx.2
        have hst : (pinsE (putsE l i) ps (j + 1)).1 = pinE (pinsE (putsE l i) ps j).1 (ps.getD j (0, 0)).1 (ps.getD j (0, 0)).2 true := rfl
        have hsc : (pinsE (putsE l i) ps (j + 1)).2 = (pinsE (putsE l i) ps j).2 + if okE (pinsE (putsE l i) ps j).1 (ps.getD j (0, 0)).1 (ps.getD j (0, 0)).2 true then 1 else 0 := rfl
        cases hok : okE (pinsE (putsE l i) ps j).1 (ps.getD j (0, 0)).1 (ps.getD j (0, 0)).2 true
        · have HE : Hid ((pinsE (putsE l i) ps (j + 1)).2 = (pinsE (putsE l i) ps j).2) := by rw [hsc, hok]; rfl
          have HS : Hid (∀ w', Ls W c m (pinE (pinsE (putsE l i) ps j).1 (ps.getD j (0, 0)).1 (ps.getD j (0, 0)).2 true) i w' → Ls W c m (pinsE (putsE l i) ps (j + 1)).1 i w') := fun w' h => by rw [hst]; exact h
          rw [hok] at hpin
          clear HP HI hx hst hsc hok HL1
          generalize (pinsE (putsE l i) ps j).2 = cj at *
          generalize (ps.getD j (0, 0)).1 = X at *
          generalize (ps.getD j (0, 0)).2 = Z at *
          go_wp2_with fail
          refine hpin.mono ?_
          clear hpin
          rintro _ w3 ⟨rfl, hL, _⟩
          have HL : Hid (Ls W c m (pinsE (putsE l i) ps (j + 1)).1 i w3) := HS.out w3 hL
          clear hL HS
          go_wp2
          go_roundw
          case rel => exact ⟨j + 1, by go_num, by rw [HE.out], by omega, by rw [HE.out]; omega, HL⟩
          case measure => simp [intOf]; omega
        · have HE : Hid ((pinsE (putsE l i) ps (j + 1)).2 = (pinsE (putsE l i) ps j).2 + 1) := by rw [hsc, hok]; rfl
          have HS : Hid (∀ w', Ls W c m (pinE (pinsE (putsE l i) ps j).1 (ps.getD j (0, 0)).1 (ps.getD j (0, 0)).2 true) i w' → Ls W c m (pinsE (putsE l i) ps (j + 1)).1 i w') := fun w' h => by rw [hst]; exact h
          rw [hok] at hpin
          clear HP HI hx hst hsc hok HL1
          generalize (pinsE (putsE l i) ps j).2 = cj at *
          generalize (ps.getD j (0, 0)).1 = X at *
          generalize (ps.getD j (0, 0)).2 = Z at *
          go_wp2_with fail
          refine hpin.mono ?_
          clear hpin
          rintro _ w3 ⟨rfl, hL, _⟩
          have HL : Hid (Ls W c m (pinsE (putsE l i) ps (j + 1)).1 i w3) := HS.out w3 hL
          clear hL HS
          go_wp2
          go_roundw
          case rel => exact ⟨j + 1, by go_num, by rw [HE.out]; go_num, by omega, by rw [HE.out]; omega, HL⟩
          case measure => simp [intOf]; omega
      obtain rfl : j = n_p := by omega
      have HF : Hid (TF l ps m (pinsE (putsE l i) ps j).1 (pinsE (putsE l i) ps j).2 (trimE m (pinsE (putsE l i) ps j).1)) := by
        have := trims_facts l ps m (by omega)
        rw [hl, hp] at this
        exact this
      have htr := HI.out.trim (by omega)
      have hslen := HI.out.cs.len
      have hi64 := HI.out.cs.i64
      have HG : Hid (∀ k, I64 ((trimE m (pinsE (putsE l i) ps j).1).2.getD k (0, 0)).1 ∧ I64 ((trimE m (pinsE (putsE l i) ps j).1).2.getD k (0, 0)).2) := fun k => ats_i64 (fun q hq => hi64 q (HF.out.key q hq)) k
      have hpinN : ∀ w, Ls W c m (trimE m (pinsE (putsE l i) ps j).1).1 i w → Calls Try.prog 22 #[.pointer (some ⟨c, 0, none⟩)] w fun e w' => e = .returned (.int .i64 ((pinsE (putsE l i) ps j).2 : Int)) ∧ Below w.heap.size w w' ∧ Ls W c m (trimE m (pinsE (putsE l i) ps j).1).1 i w' := fun w h => by
        have := h.pinN
        rw [HF.out.pin] at this
        exact this
      have HPN : Hid (∀ w, Ls W c m (trimE m (pinsE (putsE l i) ps j).1).1 i w → Calls Try.prog 22 #[.pointer (some ⟨c, 0, none⟩)] w fun e w' => e = .returned (.int .i64 ((pinsE (putsE l i) ps j).2 : Int)) ∧ Below w.heap.size w w' ∧ Ls W c m (trimE m (pinsE (putsE l i) ps j).1).1 i w') := hpinN
      have hG100 : (trimE m (pinsE (putsE l i) ps j).1).2.length ≤ i := Nat.le_trans HF.out.gl hslen
      have HF : Hid (∃ s, TF l ps m s (pinsE (putsE l i) ps j).2 (trimE m (pinsE (putsE l i) ps j).1)) := ⟨_, HF.out⟩
      clear hpinN HI HL1 hi64 hslen
      generalize (pinsE (putsE l i) ps j).2 = cnt at *
      generalize trimE m (pinsE (putsE l i) ps j).1 = t at *
      obtain ⟨kt, gs⟩ := t
      simp only at htr HG HPN HF hG100
      have hKle : ((keysE kt).length : Int) ≤ m + cnt := HF.out.choose_spec.le
      have hKeq : gs.length ≠ 0 → ((keysE kt).length : Int) = m + cnt := HF.out.choose_spec.eq
      go_wp2_with fail
      refine htr.mono ?_
      clear htr
      rintro _ w3 ⟨ga, gc, rfl, hgr, hls, _⟩
      have HGR : Hid (ARow W.heap.size w3 ga gc gs) := hgr
      have hke := hls.keys
      clear hgr hls
      go_wp2_with fail
      refine hke.mono ?_
      clear hke
      rintro _ w4 ⟨ka, kc, rfl, hkr, hb4, hls⟩
      have HT : Hid (Lt W c m kt i ga ka gc kc gs (keysE kt) w4) := ⟨hls, HGR.out.below hb4, hkr⟩
      have hpn := HPN.out w4 hls
      have hKN : kt.length ≤ i := hls.cs.len
      have hkk : (keysE kt).length = kt.length := by unfold keysE; rw [List.length_map]
      have HFO : Hid ((∀ g ∈ gs, findE kt g.1 g.2 = none) ∧ ∀ g ∈ gs, ∀ k ∈ keysE kt, k ∉ ps → lastK l g l.length < lastK l k l.length) := ⟨HF.out.choose_spec.off, HF.out.choose_spec.ord⟩
      clear hkr hb4 hls HGR HPN HF
      have hKb : (keysE kt).length ≤ 100 := by omega
      clear hKN hkk
      generalize keysE kt = ks at *
      go_wp2_with fail
      refine hpn.mono ?_
      clear hpn
      rintro _ w5 ⟨rfl, hb5, _⟩
      have HT : Hid (Lt W c m kt i ga ka gc kc gs ks w5) := HT.out.on hb5
      have HT0 : Hid (Lt W c m kt (i + 0) ga ka gc kc gs ks w5) := HT.out
      clear hb5
      by_cases hmk : m < (ks.length : Int)
      · have hno : ¬ (cnt : Int) < (ks.length : Int) - m := by omega
        go_wp2
        -- what has gone, one by one
        go_loopw [15] (fun vq wr => ∃ q : Nat, vq = .int .i64 (q : Int) ∧ q ≤ gs.length ∧ Hid (Lt W c m kt (i + q) ga ka gc kc gs ks wr)) (fun vq _ => gs.length - (intOf vq).toNat)
        case atStart => exact ⟨0, rfl, Nat.zero_le _, HT0⟩
        case round =>
          obtain ⟨q, rfl, hq, HI⟩ := hrel
          by_cases hqlt : q < gs.length
          · have hqlt' : (q : Int) < (gs.length : Int) := by omega
            obtain ⟨b, off, rfl, k0, k1⟩ := HI.out.gr.ats.at hqlt
            have hgi := HG.out q
            have hget := HI.out.ls.get (by omega) hgi.1 hgi.2
            have hfn := HFO.out.1 _ (getD_in hqlt)
            rw [hfn, getE_none hfn] at hget
            have HK : Hid (∀ w', KeepT isP W.heap.size wr w' → ARow W.heap.size w' (some ⟨b, off, none⟩) gc gs ∧ ARow W.heap.size w' ka kc ks) := fun w' hk => ⟨HI.out.gr.keep hk (fun _ _ => rfl), HI.out.kr.keep hk (fun _ _ => rfl)⟩
            have hq0 : off = 0 ∨ True := .inr trivial
            clear HI hgi hfn HT HT0
            have hXZ : ((gs.getD q (0, 0)).1, (gs.getD q (0, 0)).2) = gs.getD q (0, 0) := rfl
            generalize hX : (gs.getD q (0, 0)).1 = X at *
            generalize hZ : (gs.getD q (0, 0)).2 = Z at *
            have HXZ : Hid (gs.getD q (0, 0) = (X, Z)) := hXZ.symm
            clear hX hZ hXZ
            go_wp2_with fail
            refine hget.mono ?_
            clear hget k0 k1
            rintro _ w6 ⟨rfl, hL, hk⟩
            have HI6 : Hid (Lt W c m kt (i + (q + 1)) (some ⟨b, off, none⟩) ka gc kc gs ks w6) := ⟨by have := hL; rw [Nat.add_assoc] at this; exact this, (HK.out w6 hk).1, (HK.out w6 hk).2⟩
            clear hL hk HK
            go_wp2
            -- against each that is kept
            go_loopw [18] (fun vn wr => ∃ n : Nat, vn = .int .i64 (n : Int) ∧ n ≤ ks.length ∧ Hid (Lt W c m kt (i + (q + 1)) (some ⟨b, off, none⟩) ka gc kc gs ks wr)) (fun vn _ => ks.length - (intOf vn).toNat)
            case atStart => exact ⟨0, rfl, Nat.zero_le _, HI6⟩
            case round =>
              obtain ⟨n, rfl, hn, HJ⟩ := hrel
              by_cases hltn : n < ks.length
              · have hltn' : (n : Int) < (ks.length : Int) := by omega
                clear HI6
                go_wp2
                -- is it pinned?
                go_loopw [19, 20] (fun vh vo wr => ∃ o : Nat, vo = .int .i64 (o : Int) ∧ vh = .bool (heldB ps (ks.getD n (0, 0)) o) ∧ o ≤ j ∧ Hid (Lt W c m kt (i + (q + 1)) (some ⟨b, off, none⟩) ka gc kc gs ks wr)) (fun _ vo _ => j - (intOf vo).toNat)
                case atStart => exact ⟨0, rfl, rfl, Nat.zero_le _, HJ⟩
                case round =>
                  obtain ⟨o, rfl, rfl, ho, HM⟩ := hrel
                  by_cases hlto : o < j
                  · have hlto' : (o : Int) < (j : Int) := by omega
                    obtain ⟨pb, poff, rfl, p0, p1⟩ := (HHp.out.on HM.out.ls.below).at (k := o) (by omega)
                    obtain ⟨kb, koff, rfl, q0, q1⟩ := HM.out.kr.ats.at hltn
                    have HH : Hid (heldB ps (ks.getD n (0, 0)) (o + 1) = (heldB ps (ks.getD n (0, 0)) o || decide (ps.getD o (0, 0) = ks.getD n (0, 0)))) := rfl
                    have HN : Hid (∀ nq, Lt W c m kt (i + (q + 1)) (some ⟨b, off, none⟩) (some ⟨kb, koff, none⟩) gc kc gs ks (wr.drewN nq)) := fun nq => HM.out.on (below_drewN _ nq)
                    clear HM HJ
                    cases hh : heldB ps (ks.getD n (0, 0)) o
                    · have HE : Hid (heldB ps (ks.getD n (0, 0)) (o + 1) = decide (ps.getD o (0, 0) = ks.getD n (0, 0))) := by have := HH.out; rw [hh, Bool.false_or] at this; exact this
                      clear HH hh
                      generalize hpp : ps.getD o (0, 0) = pp at *
                      generalize hkk : ks.getD n (0, 0) = kk at *
                      have HP2 : Hid (ks.getD n (0, 0) = kk) := hkk
                      clear hpp hkk
                      obtain ⟨px, pz⟩ := pp
                      obtain ⟨kx, kz⟩ := kk
                      simp only at p0 p1 q0 q1
                      by_cases e1 : px = kx
                      · by_cases e2 : pz = kz
                        · have HE2 : Hid (heldB ps (kx, kz) (o + 1) = true) := (show heldB ps (kx, kz) (o + 1) = true from by have := HE.out; rw [e1, e2] at this; simpa using this)
                          subst e1 e2
                          clear HE
                          go_wp2
                          go_big_quiet (fail)
                          go_wp2
                          go_roundw
                          case rel => exact ⟨o + 1, by go_num, by rw [HE2.out], by omega, HN.out nq⟩
                          case measure => simp [intOf]; omega
                        · have HE2 : Hid (heldB ps (kx, kz) (o + 1) = false) := (show heldB ps (kx, kz) (o + 1) = false from by have := HE.out; rw [this]; simp [e2])
                          subst e1
                          clear HE
                          go_wp2
                          go_big_quiet (fail)
                          go_wp2
                          go_roundw
                          case rel => exact ⟨o + 1, by go_num, by rw [HE2.out], by omega, HN.out nq⟩
                          case measure => simp [intOf]; omega
                      · have HE2 : Hid (heldB ps (kx, kz) (o + 1) = false) := (show heldB ps (kx, kz) (o + 1) = false from by have := HE.out; rw [this]; simp [e1])
                        clear HE
                        go_wp2
                        go_big_quiet (fail)
                        go_wp2
                        go_roundw
                        case rel => exact ⟨o + 1, by go_num, by rw [HE2.out], by omega, HN.out nq⟩
                        case measure => simp [intOf]; omega
                    · have HE : Hid (heldB ps (ks.getD n (0, 0)) (o + 1) = true) := by have := HH.out; rw [hh, Bool.true_or] at this; exact this
                      clear HH hh p0 p1 q0 q1
                      go_wp2
                      go_big_quiet (fail)
                      go_wp2
                      go_roundw
                      case rel => exact ⟨o + 1, by go_num, by rw [HE.out], by omega, HN.out nq⟩
                      case measure => simp [intOf]; omega
                  obtain rfl : o = j := by omega
                  cases hh : heldB ps (ks.getD n (0, 0)) o
                  · obtain ⟨kb, koff, rfl, q0, q1⟩ := HM.out.kr.ats.at hltn
                    obtain ⟨gb, goff, eg, g0, g1⟩ := HM.out.gr.ats.at hqlt
                    cases eg
                    have hord : lastK l (gs.getD q (0, 0)) l.length < lastK l (ks.getD n (0, 0)) l.length := by
                      refine HFO.out.2 _ (getD_in hqlt) _ (getD_in hltn) (held_mem ?_)
                      rw [hp]
                      exact hh
                    rw [hl] at hord
                    have HAl : Hid (∀ s : Since wr, Ats s.w a_l l) := fun s => (HHl.out.on HM.out.ls.below).on s.bel
                    have HN : Hid (∀ s : Since wr, Lt W c m kt (i + (q + 1)) (some ⟨b, off, none⟩) (some ⟨kb, koff, none⟩) gc kc gs ks s.w) := fun s => HM.out.on s.bel
                    have hgx : gs.getD q (0, 0) = (X, Z) := HXZ.out
                    rw [hgx] at g0 g1 hord
                    generalize ks.getD n (0, 0) = kk at *
                    obtain ⟨kx, kz⟩ := kk
                    simp only at q0 q1 g0 g1
                    have Hla : Hid (∀ (s : Since wr) x z, Calls Try.prog 24 #[.slice a_l i c_l, valA x z] s.w fun e w' => e = .returned (.int .i64 (lastK l (x, z) i)) ∧ Below s.w.heap.size s.w w') := fun s x z => last_c (HAl.out s) hl (by omega) x z
                    have b1 := lastK_lt l (X, Z) i
                    have b2 := lastK_lt l (kx, kz) i
                    have hnlt : ¬ lastK l (kx, kz) i < lastK l (X, Z) i := by omega
                    have hsome := since_some wr
                    have s0 := fun s : Since wr => Since.cell q0 s
                    have s1 := fun s : Since wr => Since.cell q1 s
                    have s2 := fun s : Since wr => Since.cell g0 s
                    have s3 := fun s : Since wr => Since.cell g1 s
                    clear HM HJ HAl hgx hh hord q0 q1 g0 g1
                    go_wp2
                    refine wp_region_since (by kernel_rfl) (by kernel_rfl) ?_
                    repeat (go_big_quiet_step ((go_at_call 24; exact Calls.since (Hla.out _ _ _))))
                    refine wpQuiet_nil ?_
                    rintro _ ⟨s, rfl⟩
                    have HNs := HN.out s
                    clear HN s0 s1 s2 s3 Hla hsome
                    go_wp2
                    go_roundw
                    case rel => exact ⟨n + 1, by go_num, by omega, HNs⟩
                    case measure => simp [intOf]; omega
                  · clear HJ
                    have HN : Hid (∀ nq, Lt W c m kt (i + (q + 1)) (some ⟨b, off, none⟩) ka gc kc gs ks (wr.drewN nq)) := fun nq => HM.out.on (below_drewN _ nq)
                    clear HM hh
                    go_wp2
                    go_big_quiet (fail)
                    go_wp2
                    go_roundw
                    case rel => exact ⟨n + 1, by go_num, by omega, HN.out nq⟩
                    case measure => simp [intOf]; omega
              obtain rfl : n = ks.length := by omega
              have HN : Hid (Lt W c m kt (i + (q + 1)) (some ⟨b, off, none⟩) ka gc kc gs ks wr) := HJ.out
              clear HJ HI6
              go_wp2
              go_roundw
              case rel => exact ⟨q + 1, by go_num, by omega, HN⟩
              case measure => simp [intOf]; omega
          obtain rfl : q = gs.length := by omega
          have R := HP.out wr HI.out.ls.below
          by_cases hg0 : gs.length = 0
          · have hg0' : (gs.length : Int) = 0 := by omega
            clear HI HT HT0 HP
            go_wp2
            exact R
          · have hg0' : ¬ (gs.length : Int) = 0 := by omega
            have hkm : (ks.length : Int) - (cnt : Int) = m := by have := hKeq hg0; omega
            clear HI HT HT0 HP
            go_wp2
            exact R
      · go_wp2
        -- what has gone, one by one
        go_loopw [15] (fun vq wr => ∃ q : Nat, vq = .int .i64 (q : Int) ∧ q ≤ gs.length ∧ Hid (Lt W c m kt (i + q) ga ka gc kc gs ks wr)) (fun vq _ => gs.length - (intOf vq).toNat)
        case atStart => exact ⟨0, rfl, Nat.zero_le _, HT0⟩
        case round =>
          obtain ⟨q, rfl, hq, HI⟩ := hrel
          by_cases hqlt : q < gs.length
          · have hqlt' : (q : Int) < (gs.length : Int) := by omega
            obtain ⟨b, off, rfl, k0, k1⟩ := HI.out.gr.ats.at hqlt
            have hgi := HG.out q
            have hget := HI.out.ls.get (by omega) hgi.1 hgi.2
            have hfn := HFO.out.1 _ (getD_in hqlt)
            rw [hfn, getE_none hfn] at hget
            have HK : Hid (∀ w', KeepT isP W.heap.size wr w' → ARow W.heap.size w' (some ⟨b, off, none⟩) gc gs ∧ ARow W.heap.size w' ka kc ks) := fun w' hk => ⟨HI.out.gr.keep hk (fun _ _ => rfl), HI.out.kr.keep hk (fun _ _ => rfl)⟩
            have hq0 : off = 0 ∨ True := .inr trivial
            clear HI hgi hfn HT HT0
            have hXZ : ((gs.getD q (0, 0)).1, (gs.getD q (0, 0)).2) = gs.getD q (0, 0) := rfl
            generalize hX : (gs.getD q (0, 0)).1 = X at *
            generalize hZ : (gs.getD q (0, 0)).2 = Z at *
            have HXZ : Hid (gs.getD q (0, 0) = (X, Z)) := hXZ.symm
            clear hX hZ hXZ
            go_wp2_with fail
            refine hget.mono ?_
            clear hget k0 k1
            rintro _ w6 ⟨rfl, hL, hk⟩
            have HI6 : Hid (Lt W c m kt (i + (q + 1)) (some ⟨b, off, none⟩) ka gc kc gs ks w6) := ⟨by have := hL; rw [Nat.add_assoc] at this; exact this, (HK.out w6 hk).1, (HK.out w6 hk).2⟩
            clear hL hk HK
            go_wp2
            -- against each that is kept
            go_loopw [18] (fun vn wr => ∃ n : Nat, vn = .int .i64 (n : Int) ∧ n ≤ ks.length ∧ Hid (Lt W c m kt (i + (q + 1)) (some ⟨b, off, none⟩) ka gc kc gs ks wr)) (fun vn _ => ks.length - (intOf vn).toNat)
            case atStart => exact ⟨0, rfl, Nat.zero_le _, HI6⟩
            case round =>
              obtain ⟨n, rfl, hn, HJ⟩ := hrel
              by_cases hltn : n < ks.length
              · have hltn' : (n : Int) < (ks.length : Int) := by omega
                clear HI6
                go_wp2
                -- is it pinned?
                go_loopw [19, 20] (fun vh vo wr => ∃ o : Nat, vo = .int .i64 (o : Int) ∧ vh = .bool (heldB ps (ks.getD n (0, 0)) o) ∧ o ≤ j ∧ Hid (Lt W c m kt (i + (q + 1)) (some ⟨b, off, none⟩) ka gc kc gs ks wr)) (fun _ vo _ => j - (intOf vo).toNat)
                case atStart => exact ⟨0, rfl, rfl, Nat.zero_le _, HJ⟩
                case round =>
                  obtain ⟨o, rfl, rfl, ho, HM⟩ := hrel
                  by_cases hlto : o < j
                  · have hlto' : (o : Int) < (j : Int) := by omega
                    obtain ⟨pb, poff, rfl, p0, p1⟩ := (HHp.out.on HM.out.ls.below).at (k := o) (by omega)
                    obtain ⟨kb, koff, rfl, q0, q1⟩ := HM.out.kr.ats.at hltn
                    have HH : Hid (heldB ps (ks.getD n (0, 0)) (o + 1) = (heldB ps (ks.getD n (0, 0)) o || decide (ps.getD o (0, 0) = ks.getD n (0, 0)))) := rfl
                    have HN : Hid (∀ nq, Lt W c m kt (i + (q + 1)) (some ⟨b, off, none⟩) (some ⟨kb, koff, none⟩) gc kc gs ks (wr.drewN nq)) := fun nq => HM.out.on (below_drewN _ nq)
                    clear HM HJ
                    cases hh : heldB ps (ks.getD n (0, 0)) o
                    · have HE : Hid (heldB ps (ks.getD n (0, 0)) (o + 1) = decide (ps.getD o (0, 0) = ks.getD n (0, 0))) := by have := HH.out; rw [hh, Bool.false_or] at this; exact this
                      clear HH hh
                      generalize hpp : ps.getD o (0, 0) = pp at *
                      generalize hkk : ks.getD n (0, 0) = kk at *
                      have HP2 : Hid (ks.getD n (0, 0) = kk) := hkk
                      clear hpp hkk
                      obtain ⟨px, pz⟩ := pp
                      obtain ⟨kx, kz⟩ := kk
                      simp only at p0 p1 q0 q1
                      by_cases e1 : px = kx
                      · by_cases e2 : pz = kz
                        · have HE2 : Hid (heldB ps (kx, kz) (o + 1) = true) := (show heldB ps (kx, kz) (o + 1) = true from by have := HE.out; rw [e1, e2] at this; simpa using this)
                          subst e1 e2
                          clear HE
                          go_wp2
                          go_big_quiet (fail)
                          go_wp2
                          go_roundw
                          case rel => exact ⟨o + 1, by go_num, by rw [HE2.out], by omega, HN.out nq⟩
                          case measure => simp [intOf]; omega
                        · have HE2 : Hid (heldB ps (kx, kz) (o + 1) = false) := (show heldB ps (kx, kz) (o + 1) = false from by have := HE.out; rw [this]; simp [e2])
                          subst e1
                          clear HE
                          go_wp2
                          go_big_quiet (fail)
                          go_wp2
                          go_roundw
                          case rel => exact ⟨o + 1, by go_num, by rw [HE2.out], by omega, HN.out nq⟩
                          case measure => simp [intOf]; omega
                      · have HE2 : Hid (heldB ps (kx, kz) (o + 1) = false) := (show heldB ps (kx, kz) (o + 1) = false from by have := HE.out; rw [this]; simp [e1])
                        clear HE
                        go_wp2
                        go_big_quiet (fail)
                        go_wp2
                        go_roundw
                        case rel => exact ⟨o + 1, by go_num, by rw [HE2.out], by omega, HN.out nq⟩
                        case measure => simp [intOf]; omega
                    · have HE : Hid (heldB ps (ks.getD n (0, 0)) (o + 1) = true) := by have := HH.out; rw [hh, Bool.true_or] at this; exact this
                      clear HH hh p0 p1 q0 q1
                      go_wp2
                      go_big_quiet (fail)
                      go_wp2
                      go_roundw
                      case rel => exact ⟨o + 1, by go_num, by rw [HE.out], by omega, HN.out nq⟩
                      case measure => simp [intOf]; omega
                  obtain rfl : o = j := by omega
                  cases hh : heldB ps (ks.getD n (0, 0)) o
                  · obtain ⟨kb, koff, rfl, q0, q1⟩ := HM.out.kr.ats.at hltn
                    obtain ⟨gb, goff, eg, g0, g1⟩ := HM.out.gr.ats.at hqlt
                    cases eg
                    have hord : lastK l (gs.getD q (0, 0)) l.length < lastK l (ks.getD n (0, 0)) l.length := by
                      refine HFO.out.2 _ (getD_in hqlt) _ (getD_in hltn) (held_mem ?_)
                      rw [hp]
                      exact hh
                    rw [hl] at hord
                    have HAl : Hid (∀ s : Since wr, Ats s.w a_l l) := fun s => (HHl.out.on HM.out.ls.below).on s.bel
                    have HN : Hid (∀ s : Since wr, Lt W c m kt (i + (q + 1)) (some ⟨b, off, none⟩) (some ⟨kb, koff, none⟩) gc kc gs ks s.w) := fun s => HM.out.on s.bel
                    have hgx : gs.getD q (0, 0) = (X, Z) := HXZ.out
                    rw [hgx] at g0 g1 hord
                    generalize ks.getD n (0, 0) = kk at *
                    obtain ⟨kx, kz⟩ := kk
                    simp only at q0 q1 g0 g1
                    have Hla : Hid (∀ (s : Since wr) x z, Calls Try.prog 24 #[.slice a_l i c_l, valA x z] s.w fun e w' => e = .returned (.int .i64 (lastK l (x, z) i)) ∧ Below s.w.heap.size s.w w') := fun s x z => last_c (HAl.out s) hl (by omega) x z
                    have b1 := lastK_lt l (X, Z) i
                    have b2 := lastK_lt l (kx, kz) i
                    have hnlt : ¬ lastK l (kx, kz) i < lastK l (X, Z) i := by omega
                    have hsome := since_some wr
                    have s0 := fun s : Since wr => Since.cell q0 s
                    have s1 := fun s : Since wr => Since.cell q1 s
                    have s2 := fun s : Since wr => Since.cell g0 s
                    have s3 := fun s : Since wr => Since.cell g1 s
                    clear HM HJ HAl hgx hh hord q0 q1 g0 g1
                    go_wp2
                    refine wp_region_since (by kernel_rfl) (by kernel_rfl) ?_
                    repeat (go_big_quiet_step ((go_at_call 24; exact Calls.since (Hla.out _ _ _))))
                    refine wpQuiet_nil ?_
                    rintro _ ⟨s, rfl⟩
                    have HNs := HN.out s
                    clear HN s0 s1 s2 s3 Hla hsome
                    go_wp2
                    go_roundw
                    case rel => exact ⟨n + 1, by go_num, by omega, HNs⟩
                    case measure => simp [intOf]; omega
                  · clear HJ
                    have HN : Hid (∀ nq, Lt W c m kt (i + (q + 1)) (some ⟨b, off, none⟩) ka gc kc gs ks (wr.drewN nq)) := fun nq => HM.out.on (below_drewN _ nq)
                    clear HM hh
                    go_wp2
                    go_big_quiet (fail)
                    go_wp2
                    go_roundw
                    case rel => exact ⟨n + 1, by go_num, by omega, HN.out nq⟩
                    case measure => simp [intOf]; omega
              obtain rfl : n = ks.length := by omega
              have HN : Hid (Lt W c m kt (i + (q + 1)) (some ⟨b, off, none⟩) ka gc kc gs ks wr) := HJ.out
              clear HJ HI6
              go_wp2
              go_roundw
              case rel => exact ⟨q + 1, by go_num, by omega, HN⟩
              case measure => simp [intOf]; omega
          obtain rfl : q = gs.length := by omega
          have R := HP.out wr HI.out.ls.below
          by_cases hg0 : gs.length = 0
          · have hg0' : (gs.length : Int) = 0 := by omega
            clear HI HT HT0 HP
            go_wp2
            exact R
          · have hg0' : ¬ (gs.length : Int) = 0 := by omega
            have hkm : (ks.length : Int) - (cnt : Int) = m := by have := hKeq hg0; omega
            clear HI HT HT0 HP
            go_wp2
            exact R
end Go.Proofs.Ytpfhgkgkbefigaa
