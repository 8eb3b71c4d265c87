/-
  The law's tells: a region tells its slots, each in sectors of its own, and the others free.
-/
import Derived.Test.YtdjhlpllffakpaaGrows
set_option maxRecDepth 20000
namespace Go.Proofs.Ytdjhlpllffakpaa
open Go.RowKit

/-! ### how often each sector is counted -/
def cRow (l : List Sp) : List Int := (List.range 40).map fun i => (((if i < 2 then 1 else 0) + cnt l i : Nat) : Int)
theorem cRow_len (l : List Sp) : (cRow l).length = 40 := by simp [cRow]
theorem cRow_at (l : List Sp) {i : Nat} (hi : i < 40) : (cRow l).getD i 0 = (((if i < 2 then 1 else 0) + cnt l i : Nat) : Int) := by
  simp [cRow, List.getD_eq_getElem?_getD, hi]
theorem cnt_one (s : Sp) (i : Nat) : cnt [s] i = if covers s i then 1 else 0 := by simp [cnt, List.countP_cons]
theorem cnt_nil (f i : Nat) : cnt [(f, 0)] i = 0 := by
  rw [cnt_one]
  unfold covers
  rw [decide_eq_false (by simp only; omega)]
  rfl
theorem cRow_zero (l : List Sp) (f : Nat) : cRow (l ++ [(f, 0)]) = cRow l := by
  unfold cRow
  refine List.map_congr_left (fun i _ => ?_)
  rw [cnt_append, cnt_nil, Nat.add_zero]
theorem cRow_step (l : List Sp) (f k : Nat) (h : f + k < 40) : (cRow (l ++ [(f, k)])).set (f + k) ((cRow (l ++ [(f, k)])).getD (f + k) 0 + 1) = cRow (l ++ [(f, k + 1)]) := by
  have h0 : cnt [(f, k)] (f + k) = 0 := by rw [cnt_one]; unfold covers; rw [decide_eq_false (by simp only; omega)]; rfl
  have h1 : cnt [(f, k + 1)] (f + k) = 1 := by rw [cnt_one]; unfold covers; rw [decide_eq_true (by simp only; omega)]; rfl
  have h2 : ∀ i, f + k ≠ i → cnt [(f, k + 1)] i = cnt [(f, k)] i := fun i hi => by
    rw [cnt_one, cnt_one]
    unfold covers
    rw [show decide ((f, k + 1).1 ≤ i ∧ i < (f, k + 1).1 + (f, k + 1).2) = decide ((f, k).1 ≤ i ∧ i < (f, k).1 + (f, k).2) from decide_eq_decide.2 (by simp only; omega)]
  apply List.ext_getElem?
  intro i
  rw [List.getElem?_set, cRow_at _ h, cRow_len]
  by_cases hi : i < 40
  · have e : ∀ m, (cRow m)[i]? = some (((if i < 2 then 1 else 0) + cnt m i : Nat) : Int) := fun m => by simp [cRow, hi]
    rw [e, e, cnt_append, cnt_append, cnt_append]
    by_cases hk : f + k = i
    · subst hk
      rw [if_pos rfl, if_pos hi, h0, h1]
      simp only [Option.some.injEq]
      omega
    · rw [if_neg hk, h2 i hk]
  · rw [if_neg (by omega), List.getElem?_eq_none (by rw [cRow_len]; omega), List.getElem?_eq_none (by rw [cRow_len]; omega)]
theorem cRow_one {sp : List Sp} {dat : List (List Int)} (H : GoodR sp dat) {i : Nat} (hi : i < 40) : (cRow (sp ++ freeR sp)).getD i 0 = 1 := by
  rw [cRow_at _ hi, cnt_append, ← Nat.add_assoc, all_once H hi]
  rfl
def hRow (n : Nat) : List Int := (List.range 40).map fun i => if i < n then 1 else 0
theorem hRow_len (n : Nat) : (hRow n).length = 40 := by simp [hRow]
theorem hRow_zero : hRow 0 = List.replicate 40 0 := by decide
theorem hRow_step (n : Nat) (h : n < 2) : (hRow n).getD n 0 = 0 ∧ (hRow n).set n 1 = hRow (n + 1) := by
  match n, h with
  | 0, _ => exact ⟨by decide, by decide⟩
  | 1, _ => exact ⟨by decide, by decide⟩
theorem hRow_two : hRow 2 = cRow [] := by decide
theorem free_len (sp : List Sp) : (freeR sp).length ≤ 38 := by
  have h1 : ∀ j, (spTo 2 (tkR sp) j).length ≤ j := by
    intro j
    induction j with
    | zero => exact Nat.le_refl _
    | succ j ih =>
      rw [spTo]
      split
      · omega
      · unfold addS
        split
        · rename_i hl
          split
          · have := last_split hl
            have h2 := congrArg List.length this
            simp only [List.length_append, List.length_cons, List.length_nil] at h2 ⊢
            omega
          · simp only [List.length_append, List.length_cons, List.length_nil]
            omega
        · simp only [List.length_cons, List.length_nil]
          omega
  unfold freeR spansS
  rw [tkR_len]
  exact h1 38
theorem cnt_le (l : List Sp) (i : Nat) : cnt l i ≤ l.length := List.countP_le_length
theorem all_in {sp : List Sp} {dat : List (List Int)} (H : GoodR sp dat) {s : Sp} (hs : s ∈ sp ++ freeR sp) : s.1 + s.2 ≤ 40 := by
  rcases List.mem_append.1 hs with h | h
  · rcases sp_in H h with rfl | h
    · decide
    · exact h.2
  · exact ((freeR_is sp).ins s h).2.2.1

set_option maxHeartbeats 4000000 in
theorem tells_c (J : RSpec) (F : Nat → Prop) (g : Nat) (ρ : Rho) (sa : Option Addr) (sc : Nat) (l : List Sl) (w : World) (hG : J.RG F w g ρ) (hS : SlsAt w sa l) (hl : l.length = 16) (hd : ρ.dat = l.map (·.b)) :
    Calls Try.prog 17 #[.pointer (some ⟨g, 0, none⟩), .slice sa 16 sc] w fun e w' => e = .returned (.bool true) ∧ Below w.heap.size w w' := by
  obtain ⟨Post, hPost⟩ : ∃ Post : Ending → World → Prop, Post = fun e w' => e = .returned (.bool true) ∧ Below w.heap.size w w' := ⟨_, rfl⟩
  rw [← hPost]
  have HP : Hid (∀ w', Below w.heap.size w w' → Post (.returned (.bool true)) w') := fun w' h => by rw [hPost]; exact ⟨rfl, h⟩
  clear hPost
  obtain ⟨hgood, _⟩ := J.rg_good hG
  have Hgood : Hid (GoodR ρ.sp ρ.dat) := hgood
  have Hd : Hid (ρ.dat = l.map (·.b)) := hd
  have Hl : Hid (l.length = 16) := hl
  have HS0 : Hid (SlsAt w sa l) := hS
  have hn16 := hgood.n
  have hfl := free_len ρ.sp
  clear hd hl hS
  go_enter Try.func17, Try.ntmps17
  go_wp2_with fail
  refine (J.live_ F g ρ w hG).mono ?_
  rintro _ w1 ⟨hb1, la, lc, rfl, hLv, hln⟩
  have hG1 : J.RG F w1 g ρ := J.rg_keep hG (fun k hk => hb1.block k (J.rg_lt hG k hk)) hb1.size
  rw [hn16]
  go_wp2_with fail
  refine (J.free_ F g ρ w1 hG1).mono ?_
  rintro _ w2 ⟨hb2, fa, fc, rfl, hFv, hfn⟩
  have HG2 : Hid (J.RG F w2 g ρ) := J.rg_keep hG1 (fun k hk => hb2.block k (J.rg_lt hG1 k hk)) hb2.size
  have HLv2 : Hid (SpsAt w2 la ρ.sp) := hLv.on hb2
  have HFv2 : Hid (SpsAt w2 fa (freeR ρ.sp)) := hFv
  have HB2 : Hid (Below w.heap.size w w2) := hb1.trans (hb2.mono hb1.size)
  have HS2 : Hid (SlsAt w2 sa l) := HS0.out.on HB2.out
  have Hnil : Hid ((la = none → lc = 0) ∧ (fa = none → fc = 0)) := ⟨hln, hfn⟩
  have Hn16 : Hid (ρ.sp.length = 16) := hn16
  obtain ⟨fl, hfl2⟩ : ∃ fl, fl = (freeR ρ.sp).length := ⟨_, rfl⟩
  rw [← hfl2] at hfl ⊢
  have Hfl : Hid (fl = (freeR ρ.sp).length) := hfl2
  clear hb1 hb2 hLv hFv hln hfn hG hG1 hgood hn16 hfl2 HS0
  go_wp2_with (at_make; refine wpList_make_ints _ rfl _ _ rfl 40 40 rfl rfl rfl (by omega) ?_; intro w3 HN hb3)
  obtain ⟨nb, hnb⟩ : ∃ nb, nb = w2.heap.size := ⟨_, rfl⟩
  rw [← hnb] at HN ⊢
  have Hnb : Hid (nb = w2.heap.size) := hnb
  have HN0 : Hid (IRow w3 nb (hRow 0)) := by show IRow _ _ _; rw [hRow_zero]; exact HN.out
  have HB3 : Hid (Below w2.heap.size w2 w3) := hb3
  clear HN hb3 hnb
  go_loopw [8] (fun v wr => ∃ (i : Nat), i ≤ 2 ∧ v = .int .i64 (i : Int) ∧ Hid (IRow wr nb (hRow i)) ∧ Hid (Below w2.heap.size w2 wr)) (fun v _ => 2 - (intOf v).toNat)
  case atStart => exact ⟨0, by omega, rfl, HN0.out, HB3.out⟩
  case round =>
    clear HN0 HB3
    obtain ⟨i, hi, rfl, HN, HBr⟩ := hrel
    by_cases hlt : i < 2
    · have hlt' : (i : Int) < 2 := by omega
      have hat := HN.out.at (i := i) (by rw [hRow_len]; omega)
      obtain ⟨e1, e2⟩ := hRow_step i hlt
      rw [e1] at hat
      have hfr := HN.out.free i
      have HN' : Hid (IRow (wr.setCell ⟨nb, i, none⟩ (.int .i64 1)) nb (hRow (i + 1))) := by show IRow _ _ _; rw [← e2]; exact HN.out.set i 1
      have HB' : Hid (Below w2.heap.size w2 (wr.setCell ⟨nb, i, none⟩ (.int .i64 1))) := HBr.out.setCell (p := ⟨nb, i, none⟩) (by have := Hnb.out; simp only; omega) _
      have hi40 : (i : Int) < 40 := by omega
      clear HN HBr HP e1 e2
      go_wp2
      go_roundw
      case rel => exact ⟨i + 1, by omega, by go_num, HN', HB'⟩
      case measure => simp [intOf]; omega
    · obtain rfl : i = 2 := by omega
      rw [hRow_two] at HN
      have hfst : True := trivial
      go_wp2_with (at_builtin; first
        | (refine wpList_append_sps rfl _ _ rfl wr.heap.size none 0 0 [] rfl rfl (World.ownsRow_nil _ _ _ _) la 16 lc ρ.sp Hn16.out rfl (HLv2.out.on HBr.out) Hnil.out.1 (by omega) wr (Below.refl _ _) (Nat.le_refl _) ?_; clear hfst; intro ab cb w4 HO4 hb4 hs4; rw [List.nil_append] at HO4)
        | (refine wpList_append_sps rfl _ _ rfl wr.heap.size ab _ cb ρ.sp Hn16.out rfl HO4.out fa fl fc (freeR ρ.sp) Hfl.out.symm rfl (HFv2.out.on (HBr.out.trans (hb4.mono HBr.out.size))) Hnil.out.2 (by omega) wr hb4 hs4 ?_; intro ac cc w5 HO5 hb5 hs5))
      have HN5 : Hid (IRow w5 nb (cRow [])) := HN.out.on hb5
      have HB5 : Hid (Below w2.heap.size w2 w5) := HBr.out.trans (hb5.mono HBr.out.size)
      have HA5 : Hid (SpsAt w5 ac (ρ.sp ++ freeR ρ.sp)) := HO5.out.at
      have Hnb5 : Hid (nb < wr.heap.size) := HN.out.lt
      have Hab : Hid (∀ b off, ac = some ⟨b, off, none⟩ → wr.heap.size ≤ b) := fun b off e => by
        have := (World.ownsRow.lt HO5.out b (by rw [e]; rfl)).1
        exact this
      clear HO4 HO5 hb4 hb5 hs4 hs5 HN HBr hlt hi
      obtain ⟨al, hal⟩ : ∃ al, al = ρ.sp ++ freeR ρ.sp := ⟨_, rfl⟩
      have Hal : Hid (al = ρ.sp ++ freeR ρ.sp) := hal
      rw [← hal] at HA5
      have Hlen : Hid (al.length = 16 + fl) := by show _ = _; rw [hal, List.length_append, Hn16.out, Hfl.out]
      have Hin : Hid (∀ s ∈ al, s.1 + s.2 ≤ 40) := fun s hs => all_in Hgood.out (by rw [← hal]; exact hs)
      clear hal
      go_loopw [10] (fun v wr => ∃ (i : Nat), i ≤ 16 + fl ∧ v = .int .i64 (i : Int) ∧ Hid (IRow wr nb (cRow (al.take i))) ∧ Hid (SpsAt wr ac al) ∧ Hid (Below w2.heap.size w2 wr)) (fun v _ => 16 + fl - (intOf v).toNat)
      case atStart => exact ⟨0, by omega, rfl, HN5.out, HA5.out, HB5.out⟩
      case round =>
        clear HN5 HA5 HB5
        obtain ⟨i, hi, rfl, HN, HA, HBr⟩ := hrel
        by_cases hlt : i < 16 + fl
        · have hlt' : (i : Int) < 16 + (fl : Int) := by omega
          have hil : i < al.length := by rw [Hlen.out]; exact hlt
          obtain ⟨b, off, rfl, hc0, hc1⟩ := HA.out.at i hil
          have hin := Hin.out al[i] (List.getElem_mem hil)
          have Htk : Hid (al.take (i + 1) = al.take i ++ [al[i]]) := List.take_succ_eq_append_getElem hil
          have hcl : ∀ j, cnt (al.take i) j ≤ 16 + fl := fun j => by have := cnt_le (al.take i) j; have h2 := List.length_take_le i al; omega
          obtain ⟨f, m, hfm⟩ : ∃ f m, al[i] = (f, m) := ⟨_, _, rfl⟩
          rw [hfm] at hc0 hc1 hin Htk
          simp only at hc0 hc1 hin
          have Hbb := Hab.out b off rfl
          obtain ⟨wq, hwq⟩ : ∃ wq, wq = wr := ⟨_, rfl⟩
          subst hwq
          go_wp2_with fail
          go_loopw [11] (fun v wr => ∃ (k : Nat), k ≤ m ∧ v = .int .i64 (k : Int) ∧ Hid (IRow wr nb (cRow (al.take i ++ [(f, k)]))) ∧ Hid (SpsAt wr (some ⟨b, off, none⟩) al) ∧ Hid (Below w2.heap.size w2 wr)) (fun v _ => m - (intOf v).toNat)
          case atStart => exact ⟨0, Nat.zero_le _, rfl, by rw [cRow_zero]; exact HN.out, HA.out, HBr.out⟩
          case round =>
            clear HN HA HBr hc0 hc1
            obtain ⟨k, hk, rfl, HN, HA, HBr⟩ := hrel
            obtain ⟨b', off', e, hc0, hc1⟩ := HA.out.at i hil
            cases e
            rw [hfm] at hc0 hc1
            simp only at hc0 hc1
            by_cases hkl : k < m
            · have hkl' : (k : Int) < (m : Int) := by omega
              have hp40 : f + k < 40 := by omega
              have hat := HN.out.at (i := f + k) (by rw [cRow_len]; exact hp40)
              have hfr := HN.out.free (f + k)
              have hcs := cRow_step (al.take i) f k hp40
              have hbd : 0 ≤ (cRow (al.take i ++ [(f, k)])).getD (f + k) 0 ∧ (cRow (al.take i ++ [(f, k)])).getD (f + k) 0 ≤ 100 := by
                rw [cRow_at _ hp40, cnt_append]
                have h1 := hcl (f + k)
                have h2 := cnt_le [(f, k)] (f + k)
                simp only [List.length_cons, List.length_nil] at h2
                split <;> omega
              have HN' : Hid (IRow (wr.setCell ⟨nb, f + k, none⟩ (.int .i64 ((cRow (al.take i ++ [(f, k)])).getD (f + k) 0 + 1))) nb (cRow (al.take i ++ [(f, k + 1)]))) := by show IRow _ _ _; rw [← hcs]; exact HN.out.set _ _
              have HA' : Hid (SpsAt (wr.setCell ⟨nb, f + k, none⟩ (.int .i64 ((cRow (al.take i ++ [(f, k)])).getD (f + k) 0 + 1))) (some ⟨b, off, none⟩) al) := by
                rcases HA.out with h | ⟨b', off', e, h⟩
                · exact .inl h
                · cases e
                  refine .inr ⟨b, off, rfl, fun j u hj => ?_⟩
                  rw [← h j u hj]
                  exact World.cell?_of_block (a := ⟨b, off + j, none⟩) (Below.heap_setCell wr ⟨nb, f + k, none⟩ _ b (by have := Hnb5.out; simp only; omega))
              have HB' : Hid (Below w2.heap.size w2 (wr.setCell ⟨nb, f + k, none⟩ (.int .i64 ((cRow (al.take i ++ [(f, k)])).getD (f + k) 0 + 1)))) := HBr.out.setCell (p := ⟨nb, f + k, none⟩) (by have := Hnb.out; simp only; omega) _
              have d1 : ¬ (f : Int) + k < 0 := by omega
              have d2 : ¬ 40 ≤ (f : Int) + k := by omega
              have d3 : (f : Int) + k < 40 := by omega
              obtain ⟨hv0, hv1⟩ := hbd
              clear HN HA HBr hcs HP hcl
              generalize (cRow (al.take i ++ [(f, k)])).getD (f + k) 0 = v at *
              go_wp2
              go_roundw
              case rel => exact ⟨k + 1, by omega, by go_num, HN', HA', HB'⟩
              case measure => simp [intOf]; omega
            · obtain rfl : k = m := by omega
              have hge : ¬ (k : Int) < (k : Int) := by omega
              have HN' : Hid (IRow wr nb (cRow (al.take (i + 1)))) := by show IRow _ _ _; rw [Htk.out]; exact HN.out
              clear HN HP hcl
              go_wp2
              go_roundw
              case rel => exact ⟨i + 1, by omega, by go_num, HN', HA, HBr⟩
              case measure => simp [intOf]; omega
        · obtain rfl : i = 16 + fl := by omega
          have hge : ¬ ((16 + fl : Nat) : Int) < 16 + (fl : Int) := by omega
          have HN1 : Hid (IRow wr nb (cRow (ρ.sp ++ freeR ρ.sp))) := by
            have := HN.out
            rw [List.take_of_length_le (by rw [Hlen.out]; exact Nat.le_refl _), Hal.out] at this
            exact this
          clear HN HA Hin Hlen Hal Hab
          go_wp2_with fail
          obtain ⟨wk, hwk⟩ : ∃ wk, wk = wr := ⟨_, rfl⟩
          subst hwk
          go_loopw [13] (fun v wr => ∃ (i : Nat), i ≤ 40 ∧ v = .int .i64 (i : Int) ∧ wr = wk) (fun v _ => 40 - (intOf v).toNat)
          case atStart => exact ⟨0, by omega, rfl, rfl⟩
          case round =>
            obtain ⟨i, hi3, rfl, rfl⟩ := hrel
            by_cases hlt3 : i < 40
            · have hlt4 : (i : Int) < 40 := by omega
              have hat := HN1.out.at (i := i) (by rw [cRow_len]; exact hlt3)
              rw [cRow_one Hgood.out hlt3] at hat
              clear HP
              go_wp2
              go_roundw
              case rel => exact ⟨i + 1, by omega, by go_num, trivial⟩
              case measure => simp [intOf]; omega
            · obtain rfl : i = 40 := by omega
              clear HN1
              go_wp2_with fail
              go_loopw [14] (fun v wr => ∃ (q : Nat), q ≤ fl ∧ v = .int .i64 ((q : Int) + 1) ∧ Hid (Below w2.heap.size w2 wr)) (fun v _ => 50 - (intOf v).toNat)
              case atStart => exact ⟨0, by omega, rfl, HBr.out⟩
              case round =>
                clear HBr
                obtain ⟨q, hq, rfl, HBr⟩ := hrel
                by_cases hq1 : q + 1 < fl
                · have hq2 : (q : Int) + 1 < (fl : Int) := by omega
                  have hqa : q < (freeR ρ.sp).length := by have := Hfl.out; omega
                  have hqb : q + 1 < (freeR ρ.sp).length := by have := Hfl.out; omega
                  obtain ⟨fb, fo, rfl, p0, p1⟩ := (HFv2.out.on HBr.out).at q hqa
                  obtain ⟨fb', fo', e, p2, p3⟩ := (HFv2.out.on HBr.out).at (q + 1) hqb
                  cases e
                  have htwo := (freeR_is ρ.sp).two hqa hqb (by omega)
                  have hi1 := (freeR_is ρ.sp).ins _ (List.getElem_mem hqa)
                  have hi2 := (freeR_is ρ.sp).ins _ (List.getElem_mem hqb)
                  obtain ⟨fA, mA, hA⟩ : ∃ fA mA, (freeR ρ.sp)[q] = (fA, mA) := ⟨_, _, rfl⟩
                  obtain ⟨fB, mB, hBb⟩ : ∃ fB mB, (freeR ρ.sp)[q + 1] = (fB, mB) := ⟨_, _, rfl⟩
                  rw [hA] at p0 p1 htwo hi1
                  rw [hBb] at p2 p3 htwo hi2
                  simp only at p0 p1 p2 p3 htwo hi1 hi2
                  have h40a : fA ≤ 40 ∧ mA ≤ 40 ∧ fB ≤ 40 := by omega
                  obtain ⟨ha1, ha2, ha3⟩ := h40a
                  have dd : decide ((fB : Int) ≤ (fA : Int) + (mA : Int)) = false := decide_eq_false (by omega)
                  have HB' : Hid (∀ k, Below w2.heap.size w2 (wr.drewN k)) := fun k => ⟨HBr.out.os, HBr.out.tape, HBr.out.output, HBr.out.size, HBr.out.block⟩
                  clear HP HBr hi1 hi2 hA hBb htwo
                  go_wp2_with fail
                  go_big_quiet (fail)
                  go_wp2
                  go_roundw
                  case rel => exact ⟨q + 1, by omega, by go_num, HB'.out _⟩
                  case measure => simp [intOf]; omega
                · have hq2 : ¬ (q : Int) + 1 < (fl : Int) := by omega
                  go_wp2_with fail
                  go_loopw [15] (fun v wr => ∃ (j : Nat), j ≤ 16 ∧ v = .int .i64 (j : Int) ∧ Hid (Below w2.heap.size w2 wr)) (fun v _ => 16 - (intOf v).toNat)
                  case atStart => exact ⟨0, by omega, rfl, HBr.out⟩
                  case round =>
                    clear HBr
                    obtain ⟨j, hj, rfl, HBr⟩ := hrel
                    have HG : Hid (J.RG F wr g ρ) := J.rg_keep HG2.out (fun k hk => HBr.out.block k (J.rg_lt HG2.out k hk)) HBr.out.size
                    have HBq : Hid (Below w.heap.size w wr) := HB2.out.trans (HBr.out.mono HB2.out.size)
                    by_cases hj1 : j < 16
                    · have hj2 : (j : Int) < 16 := by omega
                      have hjl : j < l.length := by rw [Hl.out]; exact hj1
                      have hjs : j < ρ.sp.length := by rw [Hn16.out]; exact hj1
                      have hjd : j < ρ.dat.length := by rw [Hgood.out.m]; exact hj1
                      obtain ⟨sb, so, rfl, hO⟩ := HS2.out j hjl
                      obtain ⟨lb, lo, rfl, _, hLv⟩ := HLv2.out.at j hjs
                      have hdj : ρ.dat[j] = l[j].b := by
                        have := congrArg (fun d => d[j]?) Hd.out
                        simp only [List.getElem?_eq_getElem hjd, List.getElem?_map, List.getElem?_eq_getElem hjl, Option.map_some, Option.some.injEq] at this
                        exact this
                      have hget : getS ρ (j : Int) = l[j].b := by
                        unfold getS
                        rw [if_pos (by omega), Int.toNat_natCast, List.getD_eq_getElem?_getD, List.getElem?_eq_getElem hjd, Option.getD_some, hdj]
                      have hneed : ρ.sp[j].2 = needS l[j].n := by
                        rw [← hO.by_.n, ← hdj]
                        rcases Hgood.out.ok j hjs hjd with h | h
                        · rw [h.1, h.2]; decide
                        · exact h.2.1
                      obtain ⟨⟨oa, on, oc, ob⟩, hlj⟩ : ∃ o : Sl, l[j] = o := ⟨_, rfl⟩
                      rw [hlj] at hO hget hneed
                      simp only at hget hneed
                      obtain ⟨M, hM⟩ : ∃ M, M = ρ.sp[j].2 := ⟨_, rfl⟩
                      rw [← hM] at hLv hneed
                      have hon : on ≤ 140737488351232 := hO.sz
                      have Hon : Hid (on = ob.length) := hO.by_.n.symm
                      have HO : Hid (SlAt w2 sb so j ⟨oa, on, oc, ob⟩) := hO
                      have HLv : Hid (w2.cell? ⟨lb, lo + j * 2 + 1, none⟩ = some (.int .i64 (M : Int))) := hLv
                      have Hget : Hid (getS ρ (j : Int) = ob) := hget
                      have Hneed : Hid (M = needS on) := hneed
                      clear hO hLv hget hneed hdj hlj hM HP
                      go_wp2_with fail
                      refine region_L (fun w' => Below w2.heap.size w2 w') 24 (by kernel_rfl) ?_
                      have HGa : Hid (J.RG F wr.drew g ρ) := J.rg_keep HG.out (fun _ _ => rfl) (Nat.le_refl _)
                      have HBv : Hid (Below w2.heap.size w2 wr.drew) := HBr.out.drew
                      have HBw : Hid (Below w.heap.size w wr.drew) := HBq.out.drew
                      generalize wr.drew = va at *
                      have hHeld : (fun w' => Below w2.heap.size w2 w') _ := HBv.out
                      have hne : Nonempty (Sub (fun w' => Below w2.heap.size w2 w')) := ⟨⟨_, hHeld⟩⟩
                      have k1 : ∀ s : Sub (fun w' => Below w2.heap.size w2 w'), s.w.cell? ⟨sb, so + j, none⟩ = some (.slice oa on oc) := fun s => ((HO.out).on s.ok).c0
                      have k2 : ∀ s : Sub (fun w' => Below w2.heap.size w2 w'), s.w.cell? ⟨lb, lo + j * 2 + 1, none⟩ = some (.int .i64 (M : Int)) := fun s => cell_below HLv.out s.ok
                      have k3 : ∀ s : Sub (fun w' => Below w2.heap.size w2 w'), (convert 25 9 (.slice oa on oc)).run Try.prog s.w = .ok (.string (strOfNums ob)) s.w := fun s => conv_b (HO.out.by_.on s.ok)
                      refine take_N (i := 0) rfl (by kernel_rfl) (by kernel_rfl) (by kernel_rfl) (by rfl) (fun _ _ _ _ h => h) (by exact hHeld) (fun K hK => ?_)
                      go_simp
                      refine hK _ ?_
                      clear hK K
                      refine take_N (i := 1) rfl (by kernel_rfl) (by kernel_rfl) (by kernel_rfl) (by rfl) (fun _ _ _ _ h => h) (by exact hHeld) (fun K hK => ?_)
                      go_simp
                      refine hK _ ?_
                      clear hK K
                      refine take_N (i := 4) rfl (by kernel_rfl) (by kernel_rfl) (by kernel_rfl) (by rfl) (fun _ _ _ _ h => h) (by exact hHeld) (fun K hK => ?_)
                      go_simp
                      refine hK _ ?_
                      clear hK K
                      refine take_N (i := 5) rfl (by kernel_rfl) (by kernel_rfl) (by kernel_rfl) (by rfl) (fun _ _ _ _ h => h) (by exact hHeld) (fun K hK => ?_)
                      go_simp
                      refine hK _ ?_
                      clear hK K
                      refine take_N (i := 6) rfl (by kernel_rfl) (by kernel_rfl) (by kernel_rfl) (by rfl) (fun _ _ _ _ h => h) (by exact hHeld) (fun K hK => ?_)
                      go_simp
                      refine hK _ ?_
                      clear hK K
                      refine take_N (i := 7) rfl (by kernel_rfl) (by kernel_rfl) (by kernel_rfl) (by rfl) (fun _ _ _ _ h => h) (by exact hHeld) (fun K hK => ?_)
                      go_simp
                      refine hK _ ?_
                      clear hK K
                      refine take_N (i := 8) rfl (by kernel_rfl) (by kernel_rfl) (by kernel_rfl) (by rfl) (fun _ _ _ _ h => h) (by exact hHeld) (fun K hK => ?_)
                      go_simp
                      refine hK _ ?_
                      clear hK K
                      refine one_L (i := 2) (by kernel_rfl) rfl (fun K hK => ?_)
                      go_simp
                      refine (J.get_ F g ρ (j : Int) va (by unfold I64; omega) HGa.out).mono ?_
                      rintro _ vb ⟨hbv, ga, gc, rfl, hby⟩
                      have Hby : Hid (Bytes vb ga (getS ρ (j : Int)).length (getS ρ (j : Int))) := hby
                      have HGb : Hid (J.RG F vb g ρ) := J.rg_keep HGa.out (fun k hk => hbv.block k (J.rg_lt HGa.out k hk)) hbv.size
                      rw [Hget.out] at Hby ⊢
                      clear hby
                      replace hHeld : (fun w' => Below w2.heap.size w2 w') _ := (Below.trans hHeld (hbv.mono hHeld.size))
                      refine hK.out _ _ (fun _ => hHeld) ?_
                      clear hK K
                      refine strong_L (S' := fun w' => Below w2.heap.size w2 w' ∧ Below vb.heap.size vb w') (fun _ h => h.1) _ _ _ _ ?_
                      replace hHeld : (fun w' => Below w2.heap.size w2 w' ∧ Below vb.heap.size vb w') _ := ⟨hHeld, Below.refl _ _⟩
                      have hne2 : Nonempty (Sub (fun w' => Below w2.heap.size w2 w' ∧ Below vb.heap.size vb w')) := ⟨⟨_, hHeld⟩⟩
                      have k5 : ∀ s : Sub (fun w' => Below w2.heap.size w2 w' ∧ Below vb.heap.size vb w'), (convert 25 9 (.slice ga ob.length gc)).run Try.prog s.w = .ok (.string (strOfNums ob)) s.w := fun s => conv_b (Hby.out.on s.ok.2)
                      have j1 : ∀ s : Sub (fun w' => Below w2.heap.size w2 w' ∧ Below vb.heap.size vb w'), s.w.cell? ⟨sb, so + j, none⟩ = some (.slice oa on oc) := fun s => ((HO.out).on s.ok.1).c0
                      have j2 : ∀ s : Sub (fun w' => Below w2.heap.size w2 w' ∧ Below vb.heap.size vb w'), s.w.cell? ⟨lb, lo + j * 2 + 1, none⟩ = some (.int .i64 (M : Int)) := fun s => cell_below HLv.out s.ok.1
                      refine take_N (i := 3) rfl (by kernel_rfl) (by kernel_rfl) (by kernel_rfl) (by rfl) (fun _ _ _ _ h => h) (by exact hHeld) (fun K hK => ?_)
                      go_simp
                      refine hK _ ?_
                      clear hK K
                      refine take_N (i := 9) rfl (by kernel_rfl) (by kernel_rfl) (by kernel_rfl) (by rfl) (fun _ _ _ _ h => h) (by exact hHeld) (fun K hK => ?_)
                      go_simp
                      refine hK _ ?_
                      clear hK K
                      refine take_N (i := 10) rfl (by kernel_rfl) (by kernel_rfl) (by kernel_rfl) (by rfl) (fun _ _ _ _ h => h) (by exact hHeld) (fun K hK => ?_)
                      go_simp
                      refine hK _ ?_
                      clear hK K
                      refine take_N (i := 11) rfl (by kernel_rfl) (by kernel_rfl) (by kernel_rfl) (by rfl) (fun _ _ _ _ h => h) (by exact hHeld) (fun K hK => ?_)
                      go_simp
                      refine hK _ ?_
                      clear hK K
                      refine take_N (i := 12) rfl (by kernel_rfl) (by kernel_rfl) (by kernel_rfl) (by rfl) (fun _ _ _ _ h => h) (by exact hHeld) (fun K hK => ?_)
                      go_simp
                      refine hK _ ?_
                      clear hK K
                      refine take_N (i := 13) rfl (by kernel_rfl) (by kernel_rfl) (by kernel_rfl) (by rfl) (fun _ _ _ _ h => h) (by exact hHeld) (fun K hK => ?_)
                      go_simp
                      refine hK _ ?_
                      clear hK K
                      refine take_N (i := 14) rfl (by kernel_rfl) (by kernel_rfl) (by kernel_rfl) (by rfl) (fun _ _ _ _ h => h) (by exact hHeld) (fun K hK => ?_)
                      go_simp
                      refine hK _ ?_
                      clear hK K
                      refine take_N (i := 15) rfl (by kernel_rfl) (by kernel_rfl) (by kernel_rfl) (by rfl) (fun _ _ _ _ h => h) (by exact hHeld) (fun K hK => ?_)
                      go_simp
                      refine hK _ ?_
                      clear hK K
                      refine take_N (i := 16) rfl (by kernel_rfl) (by kernel_rfl) (by kernel_rfl) (by rfl) (fun _ _ _ _ h => h) (by exact hHeld) (fun K hK => ?_)
                      go_simp
                      refine hK _ ?_
                      clear hK K
                      refine take_N (i := 17) rfl (by kernel_rfl) (by kernel_rfl) (by kernel_rfl) (by rfl) (fun _ _ _ _ h => h) (by exact hHeld) (fun K hK => ?_)
                      go_simp
                      refine hK _ ?_
                      clear hK K
                      refine take_N (i := 18) rfl (by kernel_rfl) (by kernel_rfl) (by kernel_rfl) (by rfl) (fun _ _ _ _ h => h) (by exact hHeld) (fun K hK => ?_)
                      go_simp
                      refine hK _ ?_
                      clear hK K
                      refine take_N (i := 19) rfl (by kernel_rfl) (by kernel_rfl) (by kernel_rfl) (by rfl) (fun _ _ _ _ h => h) (by exact hHeld) (fun K hK => ?_)
                      go_simp
                      refine hK _ ?_
                      clear hK K
                      refine take_N (i := 20) rfl (by kernel_rfl) (by kernel_rfl) (by kernel_rfl) (by rfl) (fun _ _ _ _ h => h) (by exact hHeld) (fun K hK => ?_)
                      go_simp
                      refine hK _ ?_
                      clear hK K
                      refine one_L (i := 21) (by kernel_rfl) rfl (fun K hK => ?_)
                      go_simp
                      refine (rneed_c (on : Int) (by unfold I64; omega) _).mono ?_
                      rintro _ vc ⟨rfl, hvc⟩
                      replace hvc := hvc.symm
                      subst hvc
                      rw [needI_nat, ← Hneed.out]
                      replace hHeld : (fun w' => Below w2.heap.size w2 w' ∧ Below vb.heap.size vb w') _ := hHeld
                      refine hK.out _ _ (fun _ => hHeld) ?_
                      clear hK K
                      refine take_N (i := 22) rfl (by kernel_rfl) (by kernel_rfl) (by kernel_rfl) (by rfl) (fun _ _ _ _ h => h) (by exact hHeld) (fun K hK => ?_)
                      go_simp
                      refine hK _ ?_
                      clear hK K
                      refine take_N (i := 23) rfl (by kernel_rfl) (by kernel_rfl) (by kernel_rfl) (by rfl) (fun _ _ _ _ h => h) (by exact hHeld) (fun K hK => ?_)
                      go_simp
                      refine hK _ ?_
                      clear hK K
                      refine done_L (by kernel_rfl) ?_ _
                      have HBn : Hid (Below w2.heap.size w2 vb) := hHeld.1
                      clear hHeld hne hne2 k1 k2 k3 k5 j1 j2 HGa HBv HBw Hby HGb HG HBq HBr HO HLv Hget
                      go_wp2
                      go_roundw
                      case rel => exact ⟨j + 1, by omega, by go_num, HBn⟩
                      case measure => simp [intOf]; omega
                    · obtain rfl : j = 16 := by omega
                      have g1 : getS ρ (-1) = [] := by unfold getS; rw [if_neg (by omega)]
                      have g2 : getS ρ 16 = [] := by unfold getS; rw [if_neg (by omega)]
                      go_wp2_with fail
                      refine (J.get_ F g ρ (-1) wr (by unfold I64; omega) HG.out).mono ?_
                      rintro _ wx ⟨hbx, xa, xc, rfl, _⟩
                      have HGx : Hid (J.RG F wx g ρ) := J.rg_keep HG.out (fun k hk => hbx.block k (J.rg_lt HG.out k hk)) hbx.size
                      have HBx : Hid (Below w.heap.size w wx) := HBq.out.trans (hbx.mono HBq.out.size)
                      rw [g1]
                      simp only [List.length_nil]
                      clear hbx
                      go_wp2_with fail
                      refine (J.get_ F g ρ 16 wx (by unfold I64; omega) HGx.out).mono ?_
                      rintro _ wy ⟨hby, ya, yc, rfl, _⟩
                      have R := HP.out wy (HBx.out.trans (hby.mono HBx.out.size))
                      rw [g2]
                      simp only [List.length_nil]
                      clear hby HP
                      go_wp2
                      exact R
end Go.Proofs.Ytdjhlpllffakpaa
