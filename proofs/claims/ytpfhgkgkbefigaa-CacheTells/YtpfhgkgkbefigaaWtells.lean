/-
  CacheTells, walked.
-/
import Derived.Test.YtpfhgkgkbefigaaWtrims0
import Derived.Test.YtpfhgkgkbefigaaPn
import Derived.Deep.RegionWith
set_option maxRecDepth 20000
namespace Go.Proofs.Ytpfhgkgkbefigaa
open Go.RowKit Go.Maps

/-- What a chunk was given last among the first n calls. -/
def lastV (l : List Oc) (p : Int × Int) : Nat → Option Int
  | 0 => none
  | n + 1 => match l[n]? with
    | none => lastV l p n
    | some o => if o.k = 0 ∧ (o.x, o.z) = p then some o.v else lastV l p n
theorem lastV_at {l : List Oc} {p : Int × Int} {n : Nat} (h : n < l.length) : lastV l p (n + 1) = if l[n].k = 0 ∧ (l[n].x, l[n].z) = p then some l[n].v else lastV l p n := by
  show (match l[n]? with | none => lastV l p n | some o => _) = _
  rw [List.getElem?_eq_getElem h]
/-- Each that is kept has what it was given last. -/
def TI (l : List Oc) (n : Nat) (s : List E) : Prop := ∀ e ∈ s, lastV l (e.x, e.z) n = some e.v
theorem TI.put {l : List Oc} {n : Nat} {s : List E} (h : TI l n s) (hn : n < l.length) (hk : l[n].k = 0) : TI l (n + 1) (putE s l[n].x l[n].z l[n].v) := fun e he => by
  rw [lastV_at hn]
  rcases mem_put.1 he with h1 | h1
  · rw [if_neg (fun hc => h1.2 (by have := hc.2; simp only [Prod.mk.injEq] at this; exact ⟨this.1.symm, this.2.symm⟩))]
    exact h e h1.1
  · subst h1
    rw [if_pos ⟨hk, rfl⟩]
theorem TI.skip {l : List Oc} {n : Nat} {s t : List E} (h : TI l n s) (hn : n < l.length) (hk : l[n].k ≠ 0) (ht : ∀ e ∈ t, ∃ d ∈ s, e.x = d.x ∧ e.z = d.z ∧ e.v = d.v) : TI l (n + 1) t := fun e he => by
  rw [lastV_at hn, if_neg (fun hc => hk hc.1)]
  obtain ⟨d, hd, e1, e2, e3⟩ := ht e he
  rw [e1, e2, e3]
  exact h d hd
/-- Where the calls stand. -/
structure Tl (W : World) (c : Nat) (m : Int) (l : List Oc) (n : Nat) (w : World) : Prop where
  ex : ∃ s, Ls W c m s n w ∧ TI l n s
theorem Ls.more {w : World} {c : Nat} {m : Int} {l : List E} {N : Nat} {w1 : World} (h : Ls w c m l N w1) : Ls w c m l (N + 1) w1 := ⟨h.cs.more (Nat.le_succ N), h.below⟩
section
variable {W : World} {c : Nat} {m : Int} {l : List Oc} {n : Nat} {w : World}
theorem Tl.below (h : Tl W c m l n w) : Below W.heap.size W w := by
  obtain ⟨_, h, _⟩ := h.ex
  exact h.below
theorem Tl.put (h : Tl W c m l n w) (hn : n < l.length) (hk : l[n].k = 0) (hN : n ≤ 900) (hi : OcOk l[n]) : Calls Try.prog 9 #[.pointer (some ⟨c, 0, none⟩), valA l[n].x l[n].z, .int .i64 l[n].v] w fun e w' => e = .returned (.tuple #[]) ∧ Tl W c m l (n + 1) w' := by
  obtain ⟨s, h1, h2⟩ := h.ex
  refine (h1.put hN hi.1 hi.2.1 _).mono ?_
  rintro e w' ⟨rfl, h3, _⟩
  exact ⟨rfl, ⟨_, h3, h2.put hn hk⟩⟩
theorem Tl.pin (h : Tl W c m l n w) (hn : n < l.length) (hk : l[n].k ≠ 0) (hi : OcOk l[n]) : Calls Try.prog 13 #[.pointer (some ⟨c, 0, none⟩), valA l[n].x l[n].z] w fun e w' => (∃ b, e = .returned (.bool b)) ∧ Tl W c m l (n + 1) w' := by
  obtain ⟨s, h1, h2⟩ := h.ex
  refine (h1.pin hi.1 hi.2.1).mono ?_
  rintro e w' ⟨rfl, h3, _⟩
  exact ⟨⟨_, rfl⟩, ⟨_, h3.more, h2.skip hn hk (fun e he => by obtain ⟨d, hd, e1, e2, e3, _⟩ := pin_mem h1.cs.apart he; exact ⟨d, hd, e1, e2, e3⟩)⟩⟩
theorem Tl.unpin (h : Tl W c m l n w) (hn : n < l.length) (hk : l[n].k ≠ 0) (hN : n ≤ 900) (hi : OcOk l[n]) : Calls Try.prog 15 #[.pointer (some ⟨c, 0, none⟩), valA l[n].x l[n].z] w fun e w' => (∃ b, e = .returned (.bool b)) ∧ Tl W c m l (n + 1) w' := by
  obtain ⟨s, h1, h2⟩ := h.ex
  refine (h1.unpin hN hi.1 hi.2.1).mono ?_
  rintro e w' ⟨rfl, h3, _⟩
  exact ⟨⟨_, rfl⟩, ⟨_, h3.more, h2.skip hn hk (fun e he => by obtain ⟨d, hd, e1, e2, e3, _⟩ := pin_mem h1.cs.apart he; exact ⟨d, hd, e1, e2, e3⟩)⟩⟩
theorem Tl.drop (h : Tl W c m l n w) (hn : n < l.length) (hk : l[n].k ≠ 0) (hi : OcOk l[n]) : Calls Try.prog 16 #[.pointer (some ⟨c, 0, none⟩), valA l[n].x l[n].z] w fun e w' => (∃ b, e = .returned (.bool b)) ∧ Tl W c m l (n + 1) w' := by
  obtain ⟨s, h1, h2⟩ := h.ex
  refine (h1.drop hi.1 hi.2.1).mono ?_
  rintro e w' ⟨rfl, h3, _⟩
  refine ⟨⟨_, rfl⟩, ⟨_, h3.more, h2.skip hn hk (fun e he => ⟨e, ?_, rfl, rfl, rfl⟩)⟩⟩
  unfold dropE at he
  split at he
  · exact (mem_rem.1 he).1
  · exact he
theorem Tl.trim (h : Tl W c m l n w) (hn : n < l.length) (hk : l[n].k ≠ 0) (hm : 1 ≤ m) : Calls Try.prog 19 #[.pointer (some ⟨c, 0, none⟩)] w fun e w' => (∃ a k cp, e = .returned (.slice a k cp)) ∧ Tl W c m l (n + 1) w' := by
  obtain ⟨s, h1, h2⟩ := h.ex
  refine (h1.trim hm).mono ?_
  rintro e w' ⟨a, cp, rfl, _, h3, _⟩
  exact ⟨⟨_, _, _, rfl⟩, ⟨_, h3.more, h2.skip hn hk (fun e he => ⟨e, (trim_sub m h1.cs.apart).subset he, rfl, rfl, rfl⟩)⟩⟩
theorem Tl.none (h : Tl W c m l n w) (hn : n < l.length) (hk : l[n].k ≠ 0) : Tl W c m l (n + 1) w := by
  obtain ⟨s, h1, h2⟩ := h.ex
  exact ⟨_, h1.more, h2.skip hn hk (fun e he => ⟨e, he, rfl, rfl, rfl⟩)⟩
end
/-- Where the keys stand. -/
structure Tk (W : World) (c : Nat) (m : Int) (l : List Oc) (n : Nat) (ks : List (Int × Int)) (ka : Option Addr) (kc : Nat) (N : Nat) (w : World) : Prop where
  ex : ∃ s, Ls W c m s N w ∧ TI l n s ∧ ∀ k ∈ ks, ∃ e ∈ s, (e.x, e.z) = k
  row : ARow W.heap.size w ka kc ks
theorem Tk.on {W : World} {c : Nat} {m : Int} {l : List Oc} {n : Nat} {ks : List (Int × Int)} {ka : Option Addr} {kc N : Nat} {w w' : World} (h : Tk W c m l n ks ka kc N w) (hb : Below w.heap.size w w') : Tk W c m l n ks ka kc N w' := by
  obtain ⟨s, h1, h2, h3⟩ := h.ex
  exact ⟨⟨s, h1.on hb, h2, h3⟩, h.row.below hb⟩
theorem Tk.below {W : World} {c : Nat} {m : Int} {l : List Oc} {n : Nat} {ks : List (Int × Int)} {ka : Option Addr} {kc N : Nat} {w : World} (h : Tk W c m l n ks ka kc N w) : Below W.heap.size W w := by
  obtain ⟨_, h, _⟩ := h.ex
  exact h.below
theorem Tk.get {W : World} {c : Nat} {m : Int} {l : List Oc} {n : Nat} {ks : List (Int × Int)} {ka : Option Addr} {kc N : Nat} {w : World} (h : Tk W c m l n ks ka kc N w) (hN : N ≤ 900) {i : Nat} (hi : i < ks.length) :
    ∃ v, lastV l (ks.getD i (0, 0)) n = some v ∧ Calls Try.prog 11 #[.pointer (some ⟨c, 0, none⟩), valA (ks.getD i (0, 0)).1 (ks.getD i (0, 0)).2] w fun e w' => e = .returned (.tuple #[.int .i64 v, .bool true]) ∧ Tk W c m l n ks ka kc (N + 1) w' := by
  obtain ⟨s, h1, h2, h3⟩ := h.ex
  obtain ⟨e, he, hk⟩ := h3 _ (getD_in hi)
  have ha := h1.cs.apart
  have hk1 : e.x = (ks.getD i (0, 0)).1 := by rw [← hk]
  have hk2 : e.z = (ks.getD i (0, 0)).2 := by rw [← hk]
  have hi64 := h1.cs.i64 (e.x, e.z) (List.mem_map.2 ⟨e, he, rfl⟩)
  have hf := find_of_mem ha he
  refine ⟨e.v, by rw [← hk]; exact h2 e he, ?_⟩
  rw [← hk1, ← hk2]
  have hg := h1.get hN hi64.1 hi64.2
  rw [hf] at hg
  refine hg.mono ?_
  rintro e' w' ⟨rfl, h4, h5⟩
  refine ⟨rfl, ⟨_, h4, fun d hd => h2 d ((mem_get ha).1 hd), fun k hk => ?_⟩, h.row.keep h5 (fun _ _ => rfl)⟩
  obtain ⟨d, hd, e1⟩ := h3 k hk
  exact ⟨d, (mem_get ha).2 hd, e1⟩
def optV : Option Int → Int
  | none => 0
  | some v => v
set_option maxRecDepth 100000 in
set_option maxHeartbeats 4000000 in
theorem cacheTells_walk (m : Int) (a_l : Option Addr) (n_l c_l : Nat) (W : World) (I_m : I64 m) (Q_l : ∃ l : List Oc, l.length = n_l ∧ Ops W a_l l ∧ ∀ o ∈ l, OcOk o) :
    Calls Try.prog 5 #[.int .i64 m, .slice a_l n_l c_l] W fun e W' => e = .returned (.bool true) ∧ Below W.heap.size W W' := by
  obtain ⟨l, hl, Hl, Il⟩ := Q_l
  obtain ⟨Post, hPost⟩ : ∃ Post : Ending → World → Prop, Post = fun e W' => e = .returned (.bool true) ∧ Below W.heap.size W W' := ⟨_, rfl⟩
  rw [← hPost]
  have HP : Hid (∀ w', Below W.heap.size W w' → Post (.returned (.bool true)) w') := fun w' h1 => by rw [hPost]; exact ⟨rfl, h1⟩
  clear hPost
  unfold I64 at I_m
  have haw := awake_c W
  go_enter Try.func5, Try.ntmps5
  go_wp2_with fail
  refine haw.mono ?_
  clear haw
  rintro _ w1 ⟨rfl, hb1⟩
  have hnew := new_any m hb1
  clear hb1
  go_wp2_with fail
  refine hnew.mono ?_
  clear hnew
  rintro _ w2 ⟨p, rfl, hb2, hno, hyes⟩
  have Hno : Hid (m < 1 → p = none) := hno
  have Hyes : Hid (1 ≤ m → ∃ c, p = some ⟨c, 0, none⟩ ∧ Ls W c m [] 0 w2) := hyes
  have R := HP.out w2 hb2
  clear hb2 hno hyes
  by_cases h1 : 300 < n_l
  · have h1' : (300 : Int) < (n_l : Int) := by omega
    clear Hno Hyes HP
    go_wp2
    exact R
  by_cases h3 : m < 1
  · have h1' : ¬ (300 : Int) < (n_l : Int) := by omega
    clear Hno Hyes HP
    go_wp2
    exact R
  obtain ⟨c, rfl, hL0⟩ := Hyes.out (by omega)
  have h1' : ¬ (300 : Int) < (n_l : Int) := by omega
  have HL0 : Hid (Tl W c m l 0 w2) := ⟨_, hL0, fun e he => by cases he⟩
  have HHl : Hid (Ops W a_l l) := Hl
  have HIl : Hid (∀ o ∈ l, OcOk o) := Il
  clear Hno Hyes hL0 R Hl Il
  go_wp2
  -- the calls
  go_loopw [7] (fun vi wr => ∃ i : Nat, vi = .int .i64 (i : Int) ∧ i ≤ n_l ∧ Hid (Tl W c m l i wr)) (fun vi _ => n_l - (intOf vi).toNat)
  case atStart => exact ⟨0, rfl, Nat.zero_le _, HL0⟩
  case round =>
    obtain ⟨i, rfl, hi, HI⟩ := hrel
    by_cases hlt : i < n_l
    · have hlt' : (i : Int) < (n_l : Int) := by omega
      have hil : i < l.length := by omega
      obtain ⟨b, off, rfl, hop⟩ := (HHl.out.on HI.out.below) i hil
      have hok := HIl.out _ (List.getElem_mem hil)
      obtain ⟨k0, k1, k2, k3⟩ := hop
      by_cases hk0 : l[i].k = 0
      · have hc := fun w' (h : Tl W c m l i w') => h.put hil hk0 (by omega) hok
        have HC : Hid (∀ n, Calls Try.prog 9 #[.pointer (some ⟨c, 0, none⟩), valA l[i].x l[i].z, .int .i64 l[i].v] (wr.drewN n) fun e w' => e = .returned (.tuple #[]) ∧ Tl W c m l (i + 1) w') := fun n => hc _ (by obtain ⟨s, q1, q2⟩ := HI.out.ex; exact ⟨s, q1.on (below_drewN wr n), q2⟩)
        have hd := HC.out 1
        rw [hk0] at k0
        clear hc HC HI HP HL0 hok hk0
        generalize l[i].x = X at *
        generalize l[i].z = Z at *
        generalize l[i].v = V at *
        change Calls Try.prog 9 _ wr.drew _ at hd
        go_wp2
        go_region_with (go_at_call 9; refine hd.mono ?_; rintro _ w3 ⟨rfl, hL⟩)
        all_goals
          have HL : Hid (Tl W c m l (i + 1) w3) := hL
          clear hL
          go_wp2
          go_roundw
          case rel => exact ⟨i + 1, by go_num, by omega, HL⟩
          case measure => simp [intOf]; omega
      by_cases hk2 : l[i].k = 2
      · have hc := HI.out.pin hil hk0 hok
        have hk0' : ¬ l[i].k = 0 := hk0
        rw [hk2] at k0
        clear HI HP HL0 hok hk0 hk0' hk2
        generalize l[i].x = X at *
        generalize l[i].z = Z at *
        generalize l[i].v = V at *
        go_wp2_with fail
        refine hc.mono ?_
        clear hc
        rintro _ w3 ⟨⟨bb, rfl⟩, hL⟩
        have HL : Hid (Tl W c m l (i + 1) w3) := hL
        clear hL
        go_wp2
        go_roundw
        case rel => exact ⟨i + 1, by go_num, by omega, HL⟩
        case measure => simp [intOf]; omega
      by_cases hk3 : l[i].k = 3
      · have hc := HI.out.unpin hil hk0 (by omega) hok
        have hk0' : ¬ l[i].k = 0 := hk0
        rw [hk3] at k0
        clear HI HP HL0 hok hk0 hk0' hk3
        generalize l[i].x = X at *
        generalize l[i].z = Z at *
        generalize l[i].v = V at *
        go_wp2_with fail
        refine hc.mono ?_
        clear hc
        rintro _ w3 ⟨⟨bb, rfl⟩, hL⟩
        have HL : Hid (Tl W c m l (i + 1) w3) := hL
        clear hL
        go_wp2
        go_roundw
        case rel => exact ⟨i + 1, by go_num, by omega, HL⟩
        case measure => simp [intOf]; omega
      by_cases hk4 : l[i].k = 4
      · have hc := HI.out.drop hil hk0 hok
        have hk0' : ¬ l[i].k = 0 := hk0
        rw [hk4] at k0
        clear HI HP HL0 hok hk0 hk0' hk4
        generalize l[i].x = X at *
        generalize l[i].z = Z at *
        generalize l[i].v = V at *
        go_wp2_with fail
        refine hc.mono ?_
        clear hc
        rintro _ w3 ⟨⟨bb, rfl⟩, hL⟩
        have HL : Hid (Tl W c m l (i + 1) w3) := hL
        clear hL
        go_wp2
        go_roundw
        case rel => exact ⟨i + 1, by go_num, by omega, HL⟩
        case measure => simp [intOf]; omega
      by_cases hk5 : l[i].k = 5
      · have hc := HI.out.trim hil hk0 (by omega)
        have hk0' : ¬ l[i].k = 0 := hk0
        rw [hk5] at k0
        clear HI HP HL0 hok hk0 hk0' hk5
        generalize l[i].x = X at *
        generalize l[i].z = Z at *
        generalize l[i].v = V at *
        go_wp2_with fail
        refine hc.mono ?_
        clear hc
        rintro _ w3 ⟨⟨ta, tn, tc, rfl⟩, hL⟩
        have HL : Hid (Tl W c m l (i + 1) w3) := hL
        clear hL
        go_wp2
        go_roundw
        case rel => exact ⟨i + 1, by go_num, by omega, HL⟩
        case measure => simp [intOf]; omega
      have hL := HI.out.none hil hk0
      have HL : Hid (Tl W c m l (i + 1) wr) := hL
      clear hL HI HP HL0 hok
      generalize l[i].k = K at *
      go_wp2
      go_roundw
      case rel => exact ⟨i + 1, by go_num, by omega, HL⟩
      case measure => simp [intOf]; omega
    obtain rfl : i = n_l := by omega
    obtain ⟨s, hs1, hs2⟩ := HI.out.ex
    have hke := hs1.keys
    have HTI : Hid (TI l i s ∧ Ls W c m s i wr) := ⟨hs2, hs1⟩
    have hkN : (keysE s).length ≤ i := by unfold keysE; rw [List.length_map]; exact hs1.cs.len
    clear hs1 hs2 HI HL0
    go_wp2_with fail
    refine hke.mono ?_
    clear hke
    rintro _ w3 ⟨ka, kc, rfl, hkr, hb3, hls⟩
    have HT : Hid (Tk W c m l i (keysE s) ka kc (i + 0) w3) := ⟨⟨s, hls, HTI.out.1, fun k hk => by obtain ⟨e, he, e1⟩ := List.mem_map.1 hk; exact ⟨e, he, e1⟩⟩, hkr⟩
    clear hkr hb3 hls HTI
    generalize keysE s = ks at *
    go_wp2
    -- each that is kept
    go_loopw [9] (fun vq wr => ∃ q : Nat, vq = .int .i64 (q : Int) ∧ q ≤ ks.length ∧ Hid (Tk W c m l i ks ka kc (i + q) wr)) (fun vq _ => ks.length - (intOf vq).toNat)
    case atStart => exact ⟨0, rfl, Nat.zero_le _, HT⟩
    case round =>
      obtain ⟨q, rfl, hq, HI⟩ := hrel
      by_cases hql : q < ks.length
      · have hql' : (q : Int) < (ks.length : Int) := by omega
        obtain ⟨b, off, rfl, k0, k1⟩ := HI.out.row.ats.at hql
        obtain ⟨v, hv, hget⟩ := HI.out.get (by omega) hql
        have HV : Hid (lastV l (ks.getD q (0, 0)) i = some v) := hv
        clear HI HT hv
        generalize hkk : ks.getD q (0, 0) = kk at *
        obtain ⟨X, Z⟩ := kk
        have HKK : Hid (ks.getD q (0, 0) = (X, Z)) := hkk
        clear hkk
        simp only at k0 k1 hget
        go_wp2_with fail
        refine hget.mono ?_
        clear hget k0 k1
        rintro _ w4 ⟨rfl, hT⟩
        have HT4 : Hid (Tk W c m l i ks (some ⟨b, off, none⟩) kc (i + (q + 1)) w4) := hT
        clear hT
        go_wp2
        -- what it was given
        go_loopw [12, 13, 14] (fun vg vw vn wr => ∃ n : Nat, vn = .int .i64 (n : Int) ∧ vg = .bool (lastV l (X, Z) n).isSome ∧ vw = .int .i64 (optV (lastV l (X, Z) n)) ∧ n ≤ i ∧ Hid (Tk W c m l i ks (some ⟨b, off, none⟩) kc (i + (q + 1)) wr)) (fun _ _ vn _ => i - (intOf vn).toNat)
        case atStart => exact ⟨0, rfl, rfl, rfl, Nat.zero_le _, HT4⟩
        case round =>
          obtain ⟨n, rfl, rfl, rfl, hn, HJ⟩ := hrel
          by_cases hnl : n < i
          · have hnl' : (n : Int) < (i : Int) := by omega
            have hnl2 : n < l.length := by omega
            obtain ⟨ob, ooff, rfl, hop⟩ := (HHl.out.on HJ.out.below) n hnl2
            obtain ⟨o0, o1, o2, o3⟩ := hop
            obtain ⟨kb, koff, eg, g0, g1⟩ := HJ.out.row.ats.at hql
            cases eg
            rw [HKK.out] at g0 g1
            simp only at g0 g1
            have HS : Hid (lastV l (X, Z) (n + 1) = if l[n].k = 0 ∧ (l[n].x, l[n].z) = (X, Z) then some l[n].v else lastV l (X, Z) n) := lastV_at hnl2
            have HN : Hid (∀ nq, Tk W c m l i ks (some ⟨b, off, none⟩) kc (i + (q + 1)) (wr.drewN nq)) := fun nq => HJ.out.on (below_drewN _ nq)
            clear HJ HT4
            generalize l[n].x = x at *
            generalize l[n].z = z at *
            generalize l[n].v = vv at *
            by_cases hk0 : l[n].k = 0
            · rw [hk0] at o0
              by_cases e1 : x = X
              · by_cases e2 : z = Z
                · have HE : Hid (lastV l (X, Z) (n + 1) = some vv) := by have := HS.out; rw [if_pos ⟨hk0, by rw [e1, e2]⟩] at this; exact this
                  subst e1 e2
                  clear HS hk0
                  go_wp2
                  go_big_quiet (fail)
                  go_wp2
                  go_roundw
                  case rel => exact ⟨n + 1, by go_num, by rw [HE.out]; try rfl, by rw [HE.out]; try rfl, by omega, HN.out nq⟩
                  case measure => simp [intOf]; omega
                · have HE : Hid (lastV l (X, Z) (n + 1) = lastV l (X, Z) n) := by have := HS.out; rw [if_neg (fun h => e2 (by have := h.2; simp only [Prod.mk.injEq] at this; exact this.2))] at this; exact this
                  subst e1
                  clear HS hk0
                  go_wp2
                  go_big_quiet (fail)
                  go_wp2
                  go_roundw
                  case rel => exact ⟨n + 1, by go_num, by rw [HE.out]; try rfl, by rw [HE.out]; try rfl, by omega, HN.out nq⟩
                  case measure => simp [intOf]; omega
              · have HE : Hid (lastV l (X, Z) (n + 1) = lastV l (X, Z) n) := by have := HS.out; rw [if_neg (fun h => e1 (by have := h.2; simp only [Prod.mk.injEq] at this; exact this.1))] at this; exact this
                clear HS hk0
                go_wp2
                go_big_quiet (fail)
                go_wp2
                go_roundw
                case rel => exact ⟨n + 1, by go_num, by rw [HE.out]; try rfl, by rw [HE.out]; try rfl, by omega, HN.out nq⟩
                case measure => simp [intOf]; omega
            · have HE : Hid (lastV l (X, Z) (n + 1) = lastV l (X, Z) n) := by have := HS.out; rw [if_neg (fun h => hk0 h.1)] at this; exact this
              clear HS
              generalize l[n].k = K at *
              have hkd : decide (K = 0) = false := decide_eq_false hk0
              have hkb : (K == 0) = false := by simp [hk0]
              go_wp2
              go_big_quiet (fail)
              go_wp2
              go_roundw
              case rel => exact ⟨n + 1, by go_num, by rw [HE.out]; try rfl, by rw [HE.out]; try rfl, by omega, HN.out nq⟩
              case measure => simp [intOf]; omega
          obtain rfl : n = i := by omega
          have HN : Hid (Tk W c m l n ks (some ⟨b, off, none⟩) kc (n + (q + 1)) wr) := HJ.out
          have hv := HV.out
          have e1 : (lastV l (X, Z) n).isSome = true := by rw [hv]; rfl
          have e2 : optV (lastV l (X, Z) n) = v := by rw [hv]; rfl
          rw [e1, e2]
          clear hv e1 e2
          clear HJ HT4
          go_wp2
          go_roundw
          case rel => exact ⟨q + 1, by go_num, by omega, HN⟩
          case measure => simp [intOf]; omega
      obtain rfl : q = ks.length := by omega
      have R := HP.out wr HI.out.below
      clear HI HT HP
      go_wp2
      exact R
end Go.Proofs.Ytpfhgkgkbefigaa
