/-
  RegionNeeds and RegionFits, walked over any region that keeps what is asked.
-/
import Derived.Test.YtdjhlpllffakpaaGawake
set_option maxRecDepth 20000
namespace Go.Proofs.Ytdjhlpllffakpaa
open Go.RowKit

set_option maxHeartbeats 1000000 in
theorem regionNeeds_walk (J : RSpec) (n : Int) (hn : I64 n) (w : World) : Calls Try.prog 3 #[.int .i64 n] w fun e w' => e = .returned (.bool true) ∧ Below w.heap.size w w' := by
  obtain ⟨Post, hPost⟩ : ∃ Post : Ending → World → Prop, Post = fun e w' => e = .returned (.bool true) ∧ Below w.heap.size w w' := ⟨_, rfl⟩
  rw [← hPost]
  have HP : Hid (∀ w', Below w.heap.size w w' → Post (.returned (.bool true)) w') := fun w' h => by rw [hPost]; exact ⟨rfl, h⟩
  clear hPost
  go_enter Try.func3, Try.ntmps3
  go_wp2_with fail
  refine (awake_c J w).mono ?_
  rintro _ w1 ⟨rfl, hb1⟩
  by_cases h : 1099511627776 < n
  · have R := HP.out w1 hb1
    clear HP hb1
    go_wp2
    exact R
  · go_wp2_with fail
    refine (J.need_ n w1 hn (by omega)).mono ?_
    rintro _ w2 ⟨rfl, hb2⟩
    go_wp2_with fail
    refine (rneed_c n hn w2).mono ?_
    rintro _ w3 ⟨rfl, hw3⟩
    replace hw3 := hw3.symm
    subst hw3
    have R := HP.out w2 (hb1.trans (hb2.mono hb1.size))
    clear HP hb1 hb2
    generalize needI n = v at *
    go_wp2
    exact R
/-! ### RegionFits -/
def IntsIn (W : World) (a : Option Addr) (n : Nat) : Prop := ∀ k, k < n → ∃ b off x, a = some ⟨b, off, none⟩ ∧ I64 x ∧ W.cell? ⟨b, off + k, none⟩ = some (.int .i64 x)
def needs (d : List (List Int)) : List Nat := d.map fun b => needS b.length
theorem needs_set (d : List (List Int)) (s : Nat) (b : List Int) : needs (d.set s b) = (needs d).set s (needS b.length) := by simp [needs, List.map_set]
theorem sum_set : ∀ (l : List Nat) (s m : Nat), s < l.length → (l.set s m).sum = m + (l.set s 0).sum
  | [], s, m, h => absurd h (Nat.not_lt_zero _)
  | a :: r, 0, m, _ => by simp
  | a :: r, s + 1, m, h => by
    have := sum_set r s m (by simpa using h)
    simp only [List.set_cons_succ, List.sum_cons]
    omega
theorem need_full (m : Nat) : needS (m * 32) = m := by unfold needS; omega
theorem sum_step (l : List Nat) (s k : Nat) (hk : k < l.length) : ((l.set s 0).take (k + 1)).sum = ((l.set s 0).take k).sum + (if k = s then 0 else l[k]) := by
  rw [List.take_succ_eq_append_getElem (by rw [List.length_set]; exact hk), List.sum_append, List.getElem_set]
  by_cases h : s = k
  · rw [if_pos h, if_pos h.symm]; simp
  · rw [if_neg h, if_neg (Ne.symm h)]; simp
theorem need_small {sp : List Sp} {dat : List (List Int)} (H : GoodR sp dat) (k : Nat) (hk : k < dat.length) : needS dat[k].length ≤ 40 := by
  rcases H.ok k (by rw [H.n, ← H.m]; exact hk) hk with h | h
  · rw [h.1]; decide
  · omega
theorem sum_le : ∀ (l : List Nat) (c : Nat), (∀ x ∈ l, x ≤ c) → l.sum ≤ l.length * c
  | [], c, _ => by simp
  | a :: r, c, h => by
    have h1 := sum_le r c (fun x hx => h x (List.mem_cons_of_mem _ hx))
    have h2 := h a (by simp)
    simp only [List.sum_cons, List.length_cons, Nat.add_mul]
    omega
theorem tmod_nat (i m : Nat) : (i : Int).tmod (m : Int) = ((i % m : Nat) : Int) := by
  rw [Int.ofNat_tmod]

/-- A region apart from one block. -/
theorem rn_set {J : RSpec} {w : World} {g nb k : Nat} {ρ : Rho} {v : Value} (h : Rn J (fun j => j = nb) w g ρ) : Rn J (fun j => j = nb) (w.setCell ⟨nb, k, none⟩ v) g ρ := by
  obtain ⟨F, h1, h2⟩ := h.it
  exact ⟨F, J.rg_keep h1 (fun j hj => Below.heap_setCell w ⟨nb, k, none⟩ v j (h2 j hj)) (by simp [World.setCell]), h2⟩
theorem rn_less {J : RSpec} {A B : Nat → Prop} {w : World} {g : Nat} {ρ : Rho} (h : Rn J A w g ρ) (hB : ∀ k, k < w.heap.size → ¬ B k) : Rn J B w g ρ := by
  obtain ⟨F, h1, _⟩ := h.it
  exact ⟨F, h1, fun k hk => hB k (J.rg_lt h1 k hk)⟩
theorem aplan (J : RSpec) {A : Nat → Prop} {w : World} (hA : ∀ k, A k → k < w.heap.size) {g : Nat} {ρ : Rho} (hR : Rn J A w g ρ) {a : Option Addr} {n c : Nat} {l : List Cg} (hC : CgsAt w a l) (hl : l.length = n) (hn : n ≤ maxLen) :
    Calls Try.prog 18 #[.pointer (some ⟨g, 0, none⟩), .slice a n c] w fun e w' => Below w.heap.size w w' ∧
      (((planS ρ.dat (l.map Cg.cs)).1 ≠ 0 ∧ ∃ pa pc, e = .returned (.tuple #[.slice pa 0 pc, .pointer none, .int .i64 (planS ρ.dat (l.map Cg.cs)).1])) ∨
       ((planS ρ.dat (l.map Cg.cs)).1 = 0 ∧ ∃ pa pn pc g' sp', e = .returned (.tuple #[.slice pa pn pc, .pointer (some ⟨g', 0, none⟩), .int .i64 0]) ∧ Rn J A w' g' ⟨ρ.x, ρ.z, sp', (planS ρ.dat (l.map Cg.cs)).2⟩)) := by
  obtain ⟨F, hG, hap⟩ := hR.it
  refine (J.plan_ F g ρ a n c l w hG hC hl hn).mono ?_
  rintro e w' ⟨hb, h | ⟨h0, pa, pc, g', F', sp', ps, he, hG', hP, hF, hok, hon⟩⟩
  · exact ⟨hb, .inl h⟩
  · have hap' : ∀ k, F' k → ¬ A k := fun k hk hd => (hF k hk).elim (fun h => hap k h hd) (fun h => by have := hA k hd; omega)
    exact ⟨hb, .inr ⟨h0, pa, _, pc, g', sp', he, F', hG', hap'⟩⟩

set_option maxHeartbeats 4000000 in
theorem regionFits_walk (J : RSpec) (la : Option Addr) (ln lc : Nat) (w : World) (hI : IntsIn w la ln) (hln : ln ≤ maxLen) :
    Calls Try.prog 6 #[.slice la ln lc] w fun e w' => e = .returned (.bool true) ∧ Below w.heap.size w w' := by
  obtain ⟨Post, hPost⟩ : ∃ Post : Ending → World → Prop, Post = fun e w' => e = .returned (.bool true) ∧ Below w.heap.size w w' := ⟨_, rfl⟩
  rw [← hPost]
  have HP : Hid (∀ w', Below w.heap.size w w' → Post (.returned (.bool true)) w') := fun w' h => by rw [hPost]; exact ⟨rfl, h⟩
  clear hPost
  have HI : Hid (IntsIn w la ln) := hI
  have hln' : (ln : Int) ≤ 9223372036854775807 := by unfold maxLen at hln; omega
  clear hI hln
  have i0 : I64 0 := by unfold I64; omega
  have hB0 : Blank St.new.l (2, 0, 0) := blank_nil _
  go_enter Try.func6, Try.ntmps6
  go_wp2_with fail
  refine (awake_c J w).mono ?_
  rintro _ w1 ⟨rfl, hb1⟩
  go_wp2_with fail
  refine (dnew w1).mono ?_
  rintro _ w2 ⟨d, Fd, rfl, hD2, hb2⟩
  have hbw2 : Below w.heap.size w w2 := hb1.trans (hb2.mono hb1.size)
  by_cases hlen : 100 < (ln : Int)
  · have R := HP.out w2 hbw2
    clear HP hb1 hb2 hD2
    go_wp2
    exact R
  go_wp2_with fail
  refine (dopen J hD2 0 0 i0 i0 (ok_blank hB0)).mono ?_
  rintro _ w3 ⟨g, rfl, hb3, hR3⟩
  rw [rho_blank hB0] at hR3
  have hbw3 : Below w.heap.size w w3 := hbw2.trans (hb3.mono hbw2.size)
  clear hD2 hb3 hb1 hb2 hbw2
  go_wp2_with (at_make; refine wpList_make_ints _ rfl _ _ rfl 16 16 rfl rfl rfl (by omega) ?_; intro w4 HN4 hb4)
  obtain ⟨nb, hnb⟩ : ∃ nb, nb = w3.heap.size := ⟨_, rfl⟩
  rw [← hnb] at HN4 ⊢
  have hnbw : w.heap.size ≤ nb := by rw [hnb]; exact hbw3.size
  have Hnbw : Hid (w.heap.size ≤ nb) := hnbw
  have HR4 : Hid (Rn J (fun j => j = nb) w4 g ⟨0, 0, sp0, dat0⟩) := (rn_less hR3 (fun k hk => by omega)).on hb4
  have HB4 : Hid (Below w.heap.size w w4) := hbw3.trans (hb4.mono hbw3.size)
  have HN0 : Hid (IRow w4 nb ((needs dat0).map Int.ofNat)) := HN4.out
  clear hR3 hbw3 hb4 HN4 hnb hnbw
  go_loopw [5, 8] (fun rv v wr => ∃ (i g : Nat) (ρ : Rho), i ≤ ln ∧ rv = .pointer (some ⟨g, 0, none⟩) ∧ v = .int .i64 (i : Int) ∧ Hid (Rn J (fun j => j = nb) wr g ρ) ∧ Hid (IRow wr nb ((needs ρ.dat).map Int.ofNat)) ∧ Hid (Below w.heap.size w wr)) (fun _ v _ => ln - (intOf v).toNat)
  case atStart => exact ⟨0, g, _, Nat.zero_le _, rfl, rfl, HR4.out, HN0.out, HB4.out⟩
  case round =>
    clear HR4 HN0 HB4
    obtain ⟨i, gr, ρ, hi, rfl, rfl, HR, HN, HB⟩ := hrel
    by_cases hlt : i < ln
    · have hlt' : (i : Int) < (ln : Int) := by omega
      obtain ⟨lb, lo, x, rfl, hx, hcell0⟩ := HI.out i hlt
      have hcell : wr.cell? ⟨lb, lo + i, none⟩ = some (.int .i64 x) := by
        have hlb := World.block_lt_of_cell? w _ hcell0
        rw [← hcell0]
        exact World.cell?_of_block (a := ⟨lb, lo + i, none⟩) (HB.out.block lb hlb)
      clear hcell0
      obtain ⟨S, hS⟩ : ∃ S, S = i % 16 := ⟨_, rfl⟩
      have hS16 : S < 16 := by omega
      have hr1 : (i : Int).tmod 16 = (S : Int) := by rw [hS]; exact tmod_nat i 16
      obtain ⟨r, hr⟩ : ∃ r, r = x.tmod 39 := ⟨_, rfl⟩
      have hrb : -39 < r ∧ r < 39 := by
        rw [hr]
        have h1 := Int.tmod_lt_of_pos x (show (0 : Int) < 39 by omega)
        have h2 := Int.lt_tmod_of_pos x (show (0 : Int) < 39 by omega)
        omega
      obtain ⟨hrb1, hrb2⟩ := hrb
      obtain ⟨M, hM⟩ : ∃ M : Nat, (M : Int) = (r + 39).tmod 39 := by
        refine ⟨((r + 39) % 39).toNat, ?_⟩
        rw [Int.tmod_eq_emod_of_nonneg (by omega), Int.toNat_of_nonneg (by omega)]
      have hM39 : M < 39 := by
        have := Int.tmod_lt_of_pos (r + 39) (show (0 : Int) < 39 by omega)
        omega
      have hr' : x.tmod 39 = r := hr.symm
      have hM' : (r + 39).tmod 39 = (M : Int) := hM.symm
      have hgood := HR.out.good.1
      have hdl := hgood.m
      have hnl : (needs ρ.dat).length = 16 := by simp [needs, hdl]
      have hns : ∀ k (h : k < (needs ρ.dat).length), (needs ρ.dat)[k] ≤ 40 := fun k h => by
        have := need_small hgood k (by rw [hdl, ← hnl]; exact h)
        simpa [needs] using this
      have Hall : Hid (needAll (ρ.dat.set S (zeros (M * 32))) = M + ((needs ρ.dat).set S 0).sum) := by
        show _ = _
        unfold needAll
        show (needs _).sum = _
        rw [needs_set, zeros_len, need_full, sum_set _ _ _ (by omega)]
      have Hd16 : Hid (ρ.dat.length = 16) := hdl
      generalize hnsd : needs ρ.dat = ns at *
      have Hnsd : Hid (needs ρ.dat = ns) := hnsd
      clear hS hr hM hgood hdl hnsd
      have hS' : (S : Int) < 16 := by omega
      have hMs : (M : Int) < 39 := by omega
      obtain ⟨wq, hwq⟩ : ∃ wq, wq = wr := ⟨_, rfl⟩
      subst hwq
      go_wp2_with fail
      go_loopw [11, 12] (fun sv kv wr => ∃ (k : Nat), k ≤ 16 ∧ kv = .int .i64 (k : Int) ∧ sv = .int .i64 ((2 + M + ((ns.set S 0).take k).sum : Nat) : Int) ∧ wr = wq) (fun _ kv _ => 16 - (intOf kv).toNat)
      case atStart => exact ⟨0, by omega, rfl, by simp, rfl⟩
      case round =>
        obtain ⟨k, hk, rfl, rfl, rfl⟩ := hrel
        by_cases hk1 : k < 16
        · have hk2 : (k : Int) < 16 := by omega
          have hkl : k < ns.length := by rw [hnl]; exact hk1
          have hstep := sum_step ns S k hkl
          have hbd : ((ns.set S 0).take k).sum ≤ 640 := by
            have h1 := sum_le ((ns.set S 0).take k) 40 (fun y hy => by
              have hy := List.mem_of_mem_take hy
              rcases List.mem_or_eq_of_mem_set hy with h | h
              · obtain ⟨q, hq, rfl⟩ := List.mem_iff_getElem.1 h
                exact hns q hq
              · omega)
            have h2 : ((ns.set S 0).take k).length ≤ k := List.length_take_le _ _
            have h3 := Nat.mul_le_mul_right 40 h2
            omega
          have hcl := HN.out.at (i := k) (by rw [List.length_map]; exact hkl)
          have hcv : (ns.map Int.ofNat).getD k 0 = (ns[k] : Int) := by simp [List.getD_eq_getElem?_getD, hkl]
          rw [hcv] at hcl
          have hk40 := hns k hkl
          obtain ⟨A, hA⟩ : ∃ A, A = 2 + M + ((ns.set S 0).take k).sum := ⟨_, rfl⟩
          rw [← hA]
          have hA2 : A ≤ 700 := by omega
          have HA : Hid (A = 2 + M + ((ns.set S 0).take k).sum) := hA
          have Hstep : Hid (((ns.set S 0).take (k + 1)).sum = ((ns.set S 0).take k).sum + (if k = S then 0 else ns[k])) := hstep
          generalize ns[k] = v at *
          clear hstep hcv hbd hA HP
          by_cases hks : k = S
          · have hks1 : (k : Int) = (S : Int) := by rw [hks]
            have hksb : ((k : Int) == (S : Int)) = true := by rw [hks1]; simp
            clear hks1
            go_wp2
            go_roundw
            case rel => exact ⟨k + 1, by omega, by go_num, by rw [Hstep.out, if_pos hks, Nat.add_zero, ← HA.out], trivial⟩
            case measure => simp [intOf]; omega
          · have hksb : ((k : Int) == (S : Int)) = false := by simp; omega
            go_wp2
            go_roundw
            case rel => exact ⟨k + 1, by omega, by go_num, by rw [Hstep.out, if_neg hks, ← Nat.add_assoc, ← HA.out]; simp, trivial⟩
            case measure => simp [intOf]; omega
        · obtain rfl : k = 16 := by omega
          have Hsum : Hid (2 + M + ((ns.set S 0).take 16).sum = 2 + needAll (ρ.dat.set S (zeros (M * 32)))) := by
            show _ = _
            rw [Hall.out, List.take_of_length_le (by rw [List.length_set, hnl]; exact Nat.le_refl _)]
            omega
          obtain ⟨A, hA⟩ : ∃ A, A = 2 + M + ((ns.set S 0).take 16).sum := ⟨_, rfl⟩
          rw [← hA] at Hsum ⊢
          clear hA
          have Hmul : Hid ((M : Int) * 32 = ((M * 32 : Nat) : Int)) := by show _ = _; omega
          go_wp2_with (at_make; refine wpList_make_bytes _ rfl _ _ rfl ((M : Int) * 32) (M * 32) rfl rfl Hmul.out (by omega) ?_; intro w6 HM6 hb6)
          have hy6 := row_zeros HM6.out
          have hb7 : Below w6.heap.size w6 (w6.alloc (.cells #[.int .i64 (S : Int), .slice (some ⟨wr.heap.size, 0, none⟩) (M * 32) (M * 32)] 56)) := (Below.refl _ _).alloc (Nat.le_refl _) _
          have hC7 := cg_one w6 (S : Int) (some ⟨wr.heap.size, 0, none⟩) (M * 32) (M * 32) (zeros (M * 32)) (by unfold I64; omega) hy6 (fun h => by cases h) (by omega)
          have hR7 := (HR.out.on hb6).on hb7
          have hN7 := (HN.out.on hb6).on hb7
          have hB7 : Below w.heap.size w (w6.alloc (.cells #[.int .i64 (S : Int), .slice (some ⟨wr.heap.size, 0, none⟩) (M * 32) (M * 32)] 56)) := (HB.out.trans (hb6.mono HB.out.size)).trans (hb7.mono (HB.out.trans (hb6.mono HB.out.size)).size)
          clear HM6 hy6 hb6 hb7 HR HN HB
          generalize w6.alloc (.cells #[.int .i64 (S : Int), .slice (some ⟨wr.heap.size, 0, none⟩) (M * 32) (M * 32)] 56) = w7 at *
          refine (aplan J (A := fun j => j = nb) (fun k hk => by rw [hk]; exact hN7.lt) hR7 hC7 rfl (by simp only [List.length_cons, List.length_nil]; unfold maxLen; omega)).mono ?_
          have hpl := plan_one ρ.dat S hS16 (zeros (M * 32))
          rw [← Hsum.out] at hpl
          have epl : planS ρ.dat ([(⟨(S : Int), some ⟨wr.heap.size, 0, none⟩, M * 32, M * 32, zeros (M * 32)⟩ : Cg)].map Cg.cs) = if A ≤ 40 then (0, ρ.dat.set S (zeros (M * 32))) else (11, []) := hpl
          rw [epl]
          by_cases hA40 : A ≤ 40
          · rw [if_pos hA40]
            rintro _ w8 ⟨hb8, ⟨h0, _⟩ | ⟨_, pa, pn, pc, g', sp', rfl, hR8⟩⟩
            · exact absurd rfl h0
            have hA41 : (A : Int) ≤ 40 := by omega
            have hN8 := hN7.on hb8
            have hB8 : Below w.heap.size w w8 := hB7.trans (hb8.mono hB7.size)
            have hcS := hN8.at (i := S) (by rw [List.length_map, hnl]; exact hS16)
            have hfS := hN8.free S
            have HN9 : Hid (IRow (w8.setCell ⟨nb, S, none⟩ (.int .i64 (M : Int))) nb ((needs (ρ.dat.set S (zeros (M * 32)))).map Int.ofNat)) := by
              have e : (needs (ρ.dat.set S (zeros (M * 32)))).map Int.ofNat = (ns.map Int.ofNat).set S (M : Int) := by
                rw [needs_set, Hnsd.out, zeros_len, need_full, List.map_set]
                rfl
              rw [e]
              exact hN8.set S _
            have HR9 : Hid (Rn J (fun j => j = nb) (w8.setCell ⟨nb, S, none⟩ (.int .i64 (M : Int))) g' ⟨ρ.x, ρ.z, sp', ρ.dat.set S (zeros (M * 32))⟩) := rn_set hR8
            have HB9 : Hid (Below w.heap.size w (w8.setCell ⟨nb, S, none⟩ (.int .i64 (M : Int)))) := hB8.setCell (p := ⟨nb, S, none⟩) Hnbw.out _
            have hdec : decide ((A : Int) ≤ 40) = true := decide_eq_true hA41
            clear hN7 hR7 hB7 hC7 hb8 hR8 hN8 hB8 epl hpl HP Hsum Hall Hnsd Hmul
            generalize (ns.map Int.ofNat).getD S 0 = vS at hcS
            go_wp2
            go_roundw
            case rel => exact ⟨i + 1, g', _, by omega, rfl, by go_num, HR9.out, HN9.out, HB9.out⟩
            case measure => simp [intOf]; omega
          · rw [if_neg hA40]
            rintro _ w8 ⟨hb8, ⟨_, pa, pc, rfl⟩ | ⟨h0, _⟩⟩
            · have hA41 : ¬ (A : Int) ≤ 40 := by omega
              have hdec : decide ((A : Int) ≤ 40) = false := decide_eq_false hA41
              have HR9 : Hid (Rn J (fun j => j = nb) w8 gr ρ) := hR7.on hb8
              have HN9 : Hid (IRow w8 nb ((needs ρ.dat).map Int.ofNat)) := by rw [Hnsd.out]; exact hN7.on hb8
              have HB9 : Hid (Below w.heap.size w w8) := hB7.trans (hb8.mono hB7.size)
              clear hN7 hR7 hB7 hC7 hb8 epl hpl HP Hsum Hall Hnsd Hmul
              go_wp2
              go_roundw
              case rel => exact ⟨i + 1, gr, ρ, by omega, rfl, by go_num, HR9.out, HN9.out, HB9.out⟩
              case measure => simp [intOf]; omega
            · exact absurd h0 (by decide)
    · obtain rfl : i = ln := by omega
      have hge : ¬ (i : Int) < (i : Int) := by omega
      have R := HP.out wr HB.out
      clear HP HR HN HB
      go_wp2
      exact R
end Go.Proofs.Ytdjhlpllffakpaa
