/-
  CachePins, walked.
-/
import Derived.Test.YtpfhgkgkbefigaaWtrims0
import Derived.Test.YtpfhgkgkbefigaaPn
set_option maxRecDepth 20000
namespace Go.Proofs.Ytpfhgkgkbefigaa
open Go.RowKit Go.Maps

/-- A cache and what is pinned in it. -/
structure Lp (W : World) (c : Nat) (m : Int) (ps : List (Int × Int)) (n N : Nat) (w : World) : Prop where
  ex : ∃ s, Ls W c m s N w ∧ PI ps n s
structure Lu (W : World) (c : Nat) (m : Int) (ps : List (Int × Int)) (n k N : Nat) (w : World) : Prop where
  ex : ∃ s, Ls W c m s N w ∧ UI2 ps n k s
section
variable {W : World} {c : Nat} {m : Int} {ps : List (Int × Int)} {n N : Nat} {w : World}
theorem Lp.below (h : Lp W c m ps n N w) : Below W.heap.size W w := by
  obtain ⟨_, h, _⟩ := h.ex
  exact h.below
theorem Lu.below {k : Nat} (h : Lu W c m ps n k N w) : Below W.heap.size W w := by
  obtain ⟨_, h, _⟩ := h.ex
  exact h.below
theorem Lp.put (h : Lp W c m ps n N w) (hN : N ≤ 900) {x z : Int} (hx : I64 x) (hz : I64 z) (v : Int) : Calls Try.prog 9 #[.pointer (some ⟨c, 0, none⟩), valA x z, .int .i64 v] w fun e w' => e = .returned (.tuple #[]) ∧ (∃ s, Ls W c m s (N + 1) w' ∧ PI ps n s ∧ ∃ e ∈ s, e.x = x ∧ e.z = z) ∧ Below W.heap.size W w' := by
  obtain ⟨s, h1, h2⟩ := h.ex
  refine (h1.put hN hx hz v).mono ?_
  rintro e w' ⟨rfl, h3, _⟩
  exact ⟨rfl, ⟨_, h3, h2.put h1.cs.apart x z v, ⟨_, mem_put.2 (.inr rfl), rfl, rfl⟩⟩, h3.below⟩
theorem Lp.pin {x z : Int} (h : ∃ s, Ls W c m s N w ∧ PI ps n s ∧ ∃ e ∈ s, e.x = x ∧ e.z = z) (hx : I64 x) (hz : I64 z) (hk : (x, z) = ps.getD n (0, 0)) : Calls Try.prog 13 #[.pointer (some ⟨c, 0, none⟩), valA x z] w fun e w' => (∃ b, e = .returned (.bool b)) ∧ Lp W c m ps (n + 1) N w' := by
  obtain ⟨s, h1, h2, h3⟩ := h
  refine (h1.pin hx hz).mono ?_
  rintro e w' ⟨rfl, h4, _⟩
  exact ⟨⟨_, rfl⟩, ⟨_, h4, h2.pin h1.cs.apart hk h3⟩⟩
theorem Lp.trim (h : ∃ s, Ls W c m s N w ∧ PI ps n s) (hm : 1 ≤ m) : Calls Try.prog 19 #[.pointer (some ⟨c, 0, none⟩)] w fun e w' => (∃ a k cp, e = .returned (.slice a k cp)) ∧ Lp W c m ps n N w' := by
  obtain ⟨s, h1, h2⟩ := h
  refine (h1.trim hm).mono ?_
  rintro e w' ⟨a, cp, rfl, _, h4, _⟩
  exact ⟨⟨_, _, _, rfl⟩, ⟨_, h4, h2.trim h1.cs.apart m⟩⟩
theorem Lp.get (h : Lp W c m ps n N w) (hN : N ≤ 900) {k : Nat} (hk : k < n) (hi : I64 (ps.getD k (0, 0)).1 ∧ I64 (ps.getD k (0, 0)).2) : Calls Try.prog 11 #[.pointer (some ⟨c, 0, none⟩), valA (ps.getD k (0, 0)).1 (ps.getD k (0, 0)).2] w fun e w' => (∃ v, e = .returned (.tuple #[.int .i64 v, .bool true])) ∧ Lp W c m ps n (N + 1) w' := by
  obtain ⟨s, h1, h2⟩ := h.ex
  have ht := h1.get hN hi.1 hi.2
  rw [(h2.there h1.cs.apart hk).1] at ht
  refine ht.mono ?_
  rintro e w' ⟨rfl, h4, _⟩
  exact ⟨⟨_, rfl⟩, ⟨_, h4, h2.get h1.cs.apart _ _⟩⟩
theorem Lp.drop (h : Lp W c m ps n N w) {k : Nat} (hk : k < n) (hi : I64 (ps.getD k (0, 0)).1 ∧ I64 (ps.getD k (0, 0)).2) : Calls Try.prog 16 #[.pointer (some ⟨c, 0, none⟩), valA (ps.getD k (0, 0)).1 (ps.getD k (0, 0)).2] w fun e w' => e = .returned (.bool false) ∧ Lp W c m ps n N w' := by
  obtain ⟨s, h1, h2⟩ := h.ex
  have ht := h1.drop hi.1 hi.2
  have ho := (h2.there h1.cs.apart hk).2
  have hd : dropE s (ps.getD k (0, 0)).1 (ps.getD k (0, 0)).2 = s := by unfold dropE; rw [ho, if_neg (by simp)]
  rw [ho, hd] at ht
  refine ht.mono ?_
  rintro e w' ⟨rfl, h4, _⟩
  exact ⟨rfl, ⟨_, h4, h2⟩⟩
theorem Lu.unpin {k : Nat} (h : Lu W c m ps n k N w) (hN : N ≤ 900) (hi : I64 (ps.getD k (0, 0)).1 ∧ I64 (ps.getD k (0, 0)).2) : Calls Try.prog 15 #[.pointer (some ⟨c, 0, none⟩), valA (ps.getD k (0, 0)).1 (ps.getD k (0, 0)).2] w fun e w' => (∃ b, e = .returned (.bool b)) ∧ Lu W c m ps n (k + 1) N w' := by
  obtain ⟨s, h1, h2⟩ := h.ex
  refine (h1.unpin hN hi.1 hi.2).mono ?_
  rintro e w' ⟨rfl, h4, _⟩
  exact ⟨⟨_, rfl⟩, ⟨_, h4, h2.unpin h1.cs.apart rfl⟩⟩
theorem Lu.trim (h : Lu W c m ps n n N w) (hm : 1 ≤ m) : Calls Try.prog 19 #[.pointer (some ⟨c, 0, none⟩)] w fun e w' => (∃ a k cp, e = .returned (.slice a k cp)) ∧ ∃ s, Ls W c m s N w' ∧ pins s = 0 ∧ ((keysE s).length : Int) ≤ m := by
  obtain ⟨s, h1, h2⟩ := h.ex
  refine (h1.trim hm).mono ?_
  rintro e w' ⟨a, cp, rfl, _, h4, _⟩
  exact ⟨⟨_, _, _, rfl⟩, _, h4, h2.none m hm h1.cs.apart⟩
end
set_option maxRecDepth 100000 in
set_option maxHeartbeats 4000000 in
theorem cachePins_walk (m : Int) (a_p a_l : Option Addr) (n_p c_p n_l c_l : Nat) (W : World) (I_m : I64 m) (Q_p : ∃ l : List (Int × Int), l.length = n_p ∧ Ats W a_p l ∧ ∀ q ∈ l, I64 q.1 ∧ I64 q.2) (Q_l : ∃ l : List (Int × Int), l.length = n_l ∧ Ats W a_l l ∧ ∀ q ∈ l, I64 q.1 ∧ I64 q.2) :
    Calls Try.prog 6 #[.int .i64 m, .slice a_p n_p c_p, .slice a_l n_l c_l] W fun e W' => e = .returned (.bool true) ∧ Below W.heap.size W W' := by
  obtain ⟨l, hl, Hl, Il⟩ := Q_l
  obtain ⟨ps, hp, Hp, Ip⟩ := Q_p
  obtain ⟨Post, hPost⟩ : ∃ Post : Ending → World → Prop, Post = fun e W' => e = .returned (.bool true) ∧ Below W.heap.size W W' := ⟨_, rfl⟩
  rw [← hPost]
  have HP : Hid (∀ w', Below W.heap.size W w' → Post (.returned (.bool true)) w') := fun w' h1 => by rw [hPost]; exact ⟨rfl, h1⟩
  clear hPost
  unfold I64 at I_m
  have haw := awake_c W
  go_enter Try.func6, Try.ntmps6
  go_wp2_with fail
  refine haw.mono ?_
  clear haw
  rintro _ w1 ⟨rfl, hb1⟩
  have hnew := new_any m hb1
  clear hb1
  go_wp2_with fail
  refine hnew.mono ?_
  clear hnew
  rintro _ w2 ⟨p, rfl, hb2, hno, hyes⟩
  have Hno : Hid (m < 1 → p = none) := hno
  have Hyes : Hid (1 ≤ m → ∃ c, p = some ⟨c, 0, none⟩ ∧ Ls W c m [] 0 w2) := hyes
  have R := HP.out w2 hb2
  clear hb2 hno hyes
  by_cases h1 : 100 < n_l
  · have h1' : (100 : Int) < (n_l : Int) := by omega
    clear Hno Hyes HP
    go_wp2
    exact R
  by_cases h2 : 100 < n_p
  · have h1' : ¬ (100 : Int) < (n_l : Int) := by omega
    have h2' : (100 : Int) < (n_p : Int) := by omega
    clear Hno Hyes HP
    go_wp2
    exact R
  by_cases h3 : m < 1
  · have h1' : ¬ (100 : Int) < (n_l : Int) := by omega
    have h2' : ¬ (100 : Int) < (n_p : Int) := by omega
    clear Hno Hyes HP
    go_wp2
    exact R
  obtain ⟨c, rfl, hL0⟩ := Hyes.out (by omega)
  have h1' : ¬ (100 : Int) < (n_l : Int) := by omega
  have h2' : ¬ (100 : Int) < (n_p : Int) := by omega
  have HL0 : Hid (Lp W c m ps 0 0 w2) := ⟨_, hL0, PI.start ps⟩
  have HHl : Hid (Ats W a_l l) := Hl
  have HHp : Hid (Ats W a_p ps) := Hp
  have HIl : Hid (∀ q ∈ l, I64 q.1 ∧ I64 q.2) := Il
  have HIp : Hid (∀ q ∈ ps, I64 q.1 ∧ I64 q.2) := Ip
  clear Hno Hyes hL0 R Hl Hp Il Ip
  go_wp2
  -- what is pinned
  go_loopw [9] (fun vi wr => ∃ i : Nat, vi = .int .i64 (i : Int) ∧ i ≤ n_p ∧ Hid (Lp W c m ps i i wr)) (fun vi _ => n_p - (intOf vi).toNat)
  case atStart => exact ⟨0, rfl, Nat.zero_le _, HL0⟩
  case round =>
    obtain ⟨i, rfl, hi, HI⟩ := hrel
    by_cases hlt : i < n_p
    · have hlt' : (i : Int) < (n_p : Int) := by omega
      obtain ⟨b, off, rfl, k0, k1⟩ := (HHp.out.on HI.out.below).at (k := i) (by omega)
      have hx := ats_i64 HIp.out i
      have hput := HI.out.put (by omega) hx.1 hx.2 (i : Int)
      have HX : Hid (∀ w', Below W.heap.size W w' → (w'.cell? ⟨b, off + i * 2, none⟩ = some (.int .i64 (ps.getD i (0, 0)).1) ∧ w'.cell? ⟨b, off + i * 2 + 1, none⟩ = some (.int .i64 (ps.getD i (0, 0)).2))) := fun w' hb => by
        obtain ⟨b', off', e, q0, q1⟩ := (HHp.out.on hb).at (k := i) (by omega)
        cases e
        exact ⟨q0, q1⟩
      have HPi : Hid (∀ w', (∃ s, Ls W c m s (i + 1) w' ∧ PI ps i s ∧ ∃ e ∈ s, e.x = (ps.getD i (0, 0)).1 ∧ e.z = (ps.getD i (0, 0)).2) → Calls Try.prog 13 #[.pointer (some ⟨c, 0, none⟩), valA (ps.getD i (0, 0)).1 (ps.getD i (0, 0)).2] w' fun e w'' => (∃ b, e = .returned (.bool b)) ∧ Lp W c m ps (i + 1) (i + 1) w'') := fun w' h => Lp.pin h hx.1 hx.2 rfl
      clear HL0 HP HI hx
      generalize (ps.getD i (0, 0)).1 = X at *
      generalize (ps.getD i (0, 0)).2 = Z at *
      go_wp2_with fail
      refine hput.mono ?_
      clear hput k0 k1
      rintro _ w3 ⟨rfl, hs, hb3⟩
      obtain ⟨k0, k1⟩ := HX.out w3 hb3
      have hpi := HPi.out w3 hs
      clear HX HPi hs hb3
      go_wp2_with fail
      refine hpi.mono ?_
      clear hpi k0 k1
      rintro _ w4 ⟨⟨bb, rfl⟩, hL⟩
      have HL : Hid (Lp W c m ps (i + 1) (i + 1) w4) := hL
      clear hL
      go_wp2
      go_roundw
      case rel => exact ⟨i + 1, by go_num, by omega, HL⟩
      case measure => simp [intOf]; omega
    obtain rfl : i = n_p := by omega
    have HL1 : Hid (Lp W c m ps i (i + 0) wr) := HI.out
    clear HI HL0
    go_wp2
    -- what is put besides
    go_loopw [10] (fun vi wr => ∃ k : Nat, vi = .int .i64 (k : Int) ∧ k ≤ n_l ∧ Hid (Lp W c m ps i (i + k) wr)) (fun vi _ => n_l - (intOf vi).toNat)
    case atStart => exact ⟨0, rfl, Nat.zero_le _, HL1⟩
    case round =>
      obtain ⟨k, rfl, hk, HI⟩ := hrel
      by_cases hkl : k < n_l
      · have hkl' : (k : Int) < (n_l : Int) := by omega
        obtain ⟨b, off, rfl, k0, k1⟩ := (HHl.out.on HI.out.below).at (k := k) (by omega)
        have hx := ats_i64 HIl.out k
        have hput := HI.out.put (by omega) hx.1 hx.2 (k : Int)
        clear HL1 HP HI hx
        generalize (l.getD k (0, 0)).1 = X at *
        generalize (l.getD k (0, 0)).2 = Z at *
        go_wp2_with fail
        refine hput.mono ?_
        clear hput k0 k1
        rintro _ w3 ⟨rfl, ⟨s, hs1, hs2, _⟩, _⟩
        have htr := Lp.trim ⟨s, hs1, hs2⟩ (by omega)
        clear hs1 hs2
        go_wp2_with fail
        refine htr.mono ?_
        clear htr
        rintro _ w4 ⟨⟨ta, tn, tc, rfl⟩, hL⟩
        have HL : Hid (Lp W c m ps i (i + (k + 1)) w4) := by rw [← Nat.add_assoc]; exact hL
        clear hL
        go_wp2
        go_roundw
        case rel => exact ⟨k + 1, by go_num, by omega, HL⟩
        case measure => simp [intOf]; omega
      obtain rfl : k = n_l := by omega
      have HL2 : Hid (Lp W c m ps i (i + k + 0) wr) := HI.out
      clear HI HL1
      go_wp2
      -- it is there, and can't be dropped
      go_loopw [11] (fun vi wr => ∃ q : Nat, vi = .int .i64 (q : Int) ∧ q ≤ i ∧ Hid (Lp W c m ps i (i + k + q) wr)) (fun vi _ => i - (intOf vi).toNat)
      case atStart => exact ⟨0, rfl, Nat.zero_le _, HL2⟩
      case round =>
        obtain ⟨q, rfl, hq, HI⟩ := hrel
        by_cases hql : q < i
        · have hql' : (q : Int) < (i : Int) := by omega
          obtain ⟨b, off, rfl, k0, k1⟩ := (HHp.out.on HI.out.below).at (k := q) (by omega)
          have hx := ats_i64 HIp.out q
          have hget := HI.out.get (by omega) hql hx
          have HX : Hid (∀ w', Below W.heap.size W w' → (w'.cell? ⟨b, off + q * 2, none⟩ = some (.int .i64 (ps.getD q (0, 0)).1) ∧ w'.cell? ⟨b, off + q * 2 + 1, none⟩ = some (.int .i64 (ps.getD q (0, 0)).2))) := fun w' hb => by
            obtain ⟨b', off', e, q0, q1⟩ := (HHp.out.on hb).at (k := q) (by omega)
            cases e
            exact ⟨q0, q1⟩
          have HDr : Hid (∀ w', Lp W c m ps i (i + k + q + 1) w' → Calls Try.prog 16 #[.pointer (some ⟨c, 0, none⟩), valA (ps.getD q (0, 0)).1 (ps.getD q (0, 0)).2] w' fun e w'' => e = .returned (.bool false) ∧ Lp W c m ps i (i + k + q + 1) w'') := fun w' h => h.drop hql hx
          clear HL2 HP HI hx
          generalize (ps.getD q (0, 0)).1 = X at *
          generalize (ps.getD q (0, 0)).2 = Z at *
          go_wp2_with fail
          refine hget.mono ?_
          clear hget k0 k1
          rintro _ w3 ⟨⟨v, rfl⟩, hL⟩
          obtain ⟨k0, k1⟩ := HX.out w3 hL.below
          have hdr := HDr.out w3 hL
          clear HX HDr hL
          go_wp2_with fail
          refine hdr.mono ?_
          clear hdr k0 k1
          rintro _ w4 ⟨rfl, hL⟩
          have HL : Hid (Lp W c m ps i (i + k + (q + 1)) w4) := hL
          clear hL
          go_wp2
          go_roundw
          case rel => exact ⟨q + 1, by go_num, by omega, HL⟩
          case measure => simp [intOf]; omega
        obtain rfl : q = i := by omega
        have HL3 : Hid (Lu W c m ps q 0 (q + k + q) wr) := by
          obtain ⟨s, h5, h6⟩ := HI.out.ex
          exact ⟨s, h5, h6.all⟩
        clear HI HL2
        go_wp2
        -- all are let go again
        go_loopw [15] (fun vi wr => ∃ r : Nat, vi = .int .i64 (r : Int) ∧ r ≤ q ∧ Hid (Lu W c m ps q r (q + k + q) wr)) (fun vi _ => q - (intOf vi).toNat)
        case atStart => exact ⟨0, rfl, Nat.zero_le _, HL3⟩
        case round =>
          obtain ⟨r, rfl, hr, HI⟩ := hrel
          by_cases hrl : r < q
          · have hrl' : (r : Int) < (q : Int) := by omega
            obtain ⟨b, off, rfl, k0, k1⟩ := (HHp.out.on HI.out.below).at (k := r) (by omega)
            have hun := HI.out.unpin (by omega) (ats_i64 HIp.out r)
            clear HL3 HP HI
            generalize (ps.getD r (0, 0)).1 = X at *
            generalize (ps.getD r (0, 0)).2 = Z at *
            go_wp2_with fail
            refine hun.mono ?_
            clear hun k0 k1
            rintro _ w3 ⟨⟨bb, rfl⟩, hL⟩
            have HL : Hid (Lu W c m ps q (r + 1) (q + k + q) w3) := hL
            clear hL
            go_wp2
            go_roundw
            case rel => exact ⟨r + 1, by go_num, by omega, HL⟩
            case measure => simp [intOf]; omega
          obtain rfl : r = q := by omega
          have htr := HI.out.trim (by omega)
          clear HI HL3
          go_wp2_with fail
          refine htr.mono ?_
          clear htr
          rintro _ w3 ⟨⟨ta, tn, tc, rfl⟩, s, hs, hz, hm⟩
          have hpn := hs.pinN
          rw [hz] at hpn
          have HKe : Hid (∀ w', Ls W c m s (r + k + r) w' → Calls Try.prog 21 #[.pointer (some ⟨c, 0, none⟩)] w' fun e w'' => (∃ a n cp, e = .returned (.slice a n cp) ∧ (n : Int) ≤ m) ∧ Post (.returned (.bool true)) w'') := fun w' h => by
            refine h.keys.mono ?_
            rintro e w'' ⟨a, cp, rfl, _, _, h7⟩
            exact ⟨⟨_, _, _, rfl, hm⟩, HP.out _ h7.below⟩
          clear hs hz hm HP
          go_wp2_with fail
          refine hpn.mono ?_
          clear hpn
          rintro _ w4 ⟨rfl, _, hs⟩
          have hke := HKe.out w4 hs
          clear HKe hs
          go_wp2_with fail
          refine hke.mono ?_
          clear hke
          rintro _ w5 ⟨⟨ka, kn, kc, rfl, hkm⟩, R⟩
          go_wp2
          exact R
end Go.Proofs.Ytpfhgkgkbefigaa
