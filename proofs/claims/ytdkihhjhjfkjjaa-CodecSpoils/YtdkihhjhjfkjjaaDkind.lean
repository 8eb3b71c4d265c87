/-
  The program's reader: what it checks and takes.
-/
import Derived.Test.YtdkihhjhjfkjjaaRbase
import Derived.WalkLawsBesides
import Derived.BigQuiet
namespace Go.Proofs.Ytdkihhjhjfkjjaa
open Go.RowKit

/-- A step that gives up with an error's number. -/
abbrev gives (e : Int) : Ending := .panicked [{ v := .iface 33 (.int .i64 e), recovered := false }]
theorem check_yes (e : Int) (w : World) : Calls Try.prog 42 #[.bool true, .int .i64 e] w fun x w' => x = .returned (.tuple #[]) ∧ w' = w := by
  go_enter Try.func42, Try.ntmps42
  go_wp2
  go_end0
  exact ⟨rfl, rfl⟩
theorem check_no (e : Int) (w : World) : Calls Try.prog 42 #[.bool false, .int .i64 e] w fun x w' => x = gives e ∧ w' = w := by
  go_enter Try.func42, Try.ntmps42
  go_wp2
  exact ⟨rfl, rfl, rfl⟩

/-- The reader's block: the bytes that were not read yet. -/
def Rdr (w : World) (q : Nat) (a : Option Addr) (n c : Nat) : Prop := w.heap[q]? = some (.cells #[.slice a n c] 57 (0, 0))
theorem Rdr.cell {w : World} {q : Nat} {a : Option Addr} {n c : Nat} (h : Rdr w q a n c) : w.cell? ⟨q, 0, none⟩ = some (.slice a n c) := by
  rw [cell_of_row w q 0 _ 57 (0, 0) h]; rfl
theorem Rdr.free {w : World} {q : Nat} {a : Option Addr} {n c : Nat} (h : Rdr w q a n c) : w.frozen? ⟨q, 0, none⟩ = false := frozen_of_row w q 0 _ 57 h
theorem Rdr.lt {w : World} {q : Nat} {a : Option Addr} {n c : Nat} (h : Rdr w q a n c) : q < w.heap.size := (Array.getElem?_eq_some_iff.1 h).1
theorem Rdr.set {w : World} {q : Nat} {a : Option Addr} {n c : Nat} (h : Rdr w q a n c) (a' : Option Addr) (n' c' : Nat) : Rdr (w.setCell ⟨q, 0, none⟩ (.slice a' n' c')) q a' n' c' := by
  unfold Rdr
  rw [heap_setCell_same w q 0 _ 57 _ h]
  rfl
theorem Rdr.only {w w' : World} {q g : Nat} {a : Option Addr} {n c : Nat} (h : Rdr w q a n c) (o : Only g w w') (hb : q ≠ g) : Rdr w' q a n c := (o.block q hb).trans h
theorem Rdr.below {w w' : World} {q m : Nat} {a : Option Addr} {n c : Nat} (h : Rdr w q a n c) (hb : Below m w w') (hn : q < m) : Rdr w' q a n c := (hb.block q hn).trans h

theorem slice_to (b off n c m : Nat) (h1 : 1 ≤ m) (h2 : m ≤ n) (h3 : n ≤ c) : ∀ w, (Instr.sliceAt 25 (.slice (some ⟨b, off, none⟩) n c) none (some (.int .i64 (m : Int))) none).run Try.prog w = .ok (.slice (some ⟨b, off, none⟩) m c) w := fun w => by
  rw [run_sliceAt_slice w 25 _ _ _ _ (by kernel_rfl), run_slice_h w 25 (some ⟨b, off, none⟩) n c (by kernel_rfl) .i64 m (by omega) (by omega), show Try.prog.elem 25 = 5 by kernel_rfl, sizeOf5, Result.andThen_ok, Int.toNat_natCast]
  unfold sliced
  rw [if_neg (by omega), Nat.sub_zero, Nat.sub_zero]
  rfl

theorem take_no (q : Nat) (a : Option Addr) (n c m : Nat) (w : World) (hR : Rdr w q a n c) (h : n < m) : Calls Try.prog 41 #[.pointer (some ⟨q, 0, none⟩), .int .i64 (m : Int)] w fun e w' => e = gives 3 ∧ w' = w := by
  have hc := hR.cell
  have h' : ¬ (m : Int) ≤ n := by omega
  go_enter Try.func41, Try.ntmps41
  go_wp2_with fail
  refine (check_no 3 w).mono ?_
  rintro _ _ ⟨rfl, rfl⟩
  go_wp2
  exact ⟨rfl, rfl, rfl⟩
theorem take_yes (q b off n c m : Nat) (w : World) (hR : Rdr w q (some ⟨b, off, none⟩) n c) (h1 : 1 ≤ m) (h : m ≤ n) (hn : n ≤ c) : Calls Try.prog 41 #[.pointer (some ⟨q, 0, none⟩), .int .i64 (m : Int)] w fun e w' =>
    e = .returned (.slice (some ⟨b, off, none⟩) m c) ∧ ∃ o', (m = c ∨ o' = off + m) ∧ Rdr w' q (some ⟨b, o', none⟩) (n - m) (c - m) ∧ Only q w w' := by
  have hc := hR.cell
  have hf := hR.free
  have h' : (m : Int) ≤ n := by omega
  obtain ⟨o2, hsl, ho⟩ := slice_from b off n c m h
  have hst := slice_to b off n c m h1 h hn
  have HF : Hid (Rdr (w.setCell ⟨q, 0, none⟩ (.slice (some ⟨b, o2, none⟩) (n - m) (c - m))) q (some ⟨b, o2, none⟩) (n - m) (c - m)) := hR.set _ _ _
  have HO : Hid (Only q w (w.setCell ⟨q, 0, none⟩ (.slice (some ⟨b, o2, none⟩) (n - m) (c - m)))) := (Only.refl q w).set 0 _
  have Ho : Hid (m = c ∨ o2 = off + m) := ho
  clear hR ho
  generalize n - m = n2 at *
  generalize c - m = c2 at *
  have hck := check_yes 3 w
  go_enter Try.func41, Try.ntmps41
  go_wp2_with fail
  refine hck.mono ?_
  clear hck
  rintro _ _ ⟨rfl, rfl⟩
  go_wp2
  go_ret
  exact ⟨rfl, o2, Ho.out, HF.out, HO.out⟩

/-- Where no number is told, none is answered. -/
theorem getF_two : ∀ (f i : Nat) (acc : Int) (xs : List Int), (getF f i acc xs).2 = 0 → (getF f i acc xs).1 = 0
  | 0, _, _, _, _ => rfl
  | _ + 1, _, _, [], _ => rfl
  | f + 1, i, acc, z :: r, h => by
    unfold getF at h ⊢
    split
    · rename_i h1
      rw [if_pos h1] at h
      split
      · rfl
      · rename_i h2
        rw [if_neg h2] at h
        simp only at h
        omega
    · rename_i h1
      rw [if_neg h1] at h
      exact getF_two f (i + 1) _ r h
theorem getL_two {xs : List Int} (h : (getL xs).2 = 0) : (getL xs).1 = 0 := getF_two 5 0 0 xs h

theorem check_not {h : Bool} (hh : h = false) (e : Int) (w : World) : Calls Try.prog 42 #[.bool h, .int .i64 e] w fun x w' => x = gives e ∧ w' = w := by
  subst hh; exact check_no e w
theorem check_is {h : Bool} (hh : h = true) (e : Int) (w : World) : Calls Try.prog 42 #[.bool h, .int .i64 e] w fun x w' => x = .returned (.tuple #[]) ∧ w' = w := by
  subst hh; exact check_yes e w

theorem number_short (q : Nat) (a : Option Addr) (c : Nat) (M : Int) (w : World) (hR : Rdr w q a 0 c) : Calls Try.prog 48 #[.pointer (some ⟨q, 0, none⟩), .int .i64 M] w fun e w' => e = gives 3 ∧ w' = w := by
  have hc := hR.cell
  have hck := check_no 3 w
  clear hR
  go_enter Try.func48, Try.ntmps48
  go_wp2_with fail
  refine hck.mono ?_
  clear hck
  rintro _ _ ⟨rfl, rfl⟩
  go_wp2
  exact ⟨rfl, rfl, rfl⟩
theorem number_form (q : Nat) (a : Option Addr) (n c : Nat) (bs : List Int) (M : Int) (w : World) (hR : Rdr w q a n c) (hB : Bytes w a n bs) (hn : 0 < n) (hb : n ≤ 1000000) (hg : (getL bs).1 < 1 ∨ M < (getL bs).1) :
    Calls Try.prog 48 #[.pointer (some ⟨q, 0, none⟩), .int .i64 M] w fun e w' => e = gives 4 ∧ w' = w := by
  have hc := hR.cell
  have hck := check_yes 3 w
  have hck2 := check_no 4 w
  have hget := get_any a n c bs w (by omega) hB
  have hn' : (0 : Int) < n := by omega
  generalize (getL bs).1 = v at *
  generalize (getL bs).2 = s at *
  clear hR hB hb
  by_cases h1 : v < 1
  · have h1' : ¬ (1 : Int) ≤ v := by omega
    clear hg h1
    go_enter Try.func48, Try.ntmps48
    go_wp2_with fail
    refine hck.mono ?_
    clear hck
    rintro _ _ ⟨rfl, rfl⟩
    go_wp2_with fail
    refine hget.mono ?_
    clear hget
    rintro _ _ ⟨rfl, rfl⟩
    go_wp2_with fail
    refine hck2.mono ?_
    clear hck2
    rintro _ _ ⟨rfl, rfl⟩
    go_wp2
    exact ⟨rfl, rfl, rfl⟩
  · have h1' : (1 : Int) ≤ v := by omega
    have h2' : ¬ v ≤ M := by omega
    have H2 : Hid (¬ v ≤ M) := h2'
    clear hg h1 hck2
    go_enter Try.func48, Try.ntmps48
    go_wp2_with fail
    refine hck.mono ?_
    clear hck
    rintro _ _ ⟨rfl, rfl⟩
    go_wp2_with fail
    refine hget.mono ?_
    clear hget
    rintro _ _ ⟨rfl, rfl⟩
    go_wp2_with fail
    refine (check_not (decide_eq_false (by have := H2.out; omega)) 4 _).mono ?_
    rintro _ _ ⟨rfl, rfl⟩
    go_wp2
    exact ⟨rfl, rfl, rfl⟩
theorem number_yes (q b off n c s : Nat) (bs : List Int) (M : Int) (w : World) (hR : Rdr w q (some ⟨b, off, none⟩) n c) (hB : Bytes w (some ⟨b, off, none⟩) n bs) (hn : 0 < n) (hc : n ≤ c) (hb : n ≤ 1000000) (h1 : 1 ≤ (getL bs).1) (h2 : (getL bs).1 ≤ M) (hs : (getL bs).2 = (s : Int)) :
    Calls Try.prog 48 #[.pointer (some ⟨q, 0, none⟩), .int .i64 M] w fun e w' => e = .returned (.int .i64 (getL bs).1) ∧ ∃ o', (s = c ∨ o' = off + s) ∧ Rdr w' q (some ⟨b, o', none⟩) (n - s) (c - s) ∧ Only q w w' := by
  have hcl := hR.cell
  have hck := check_yes 3 w
  have hck2 := check_yes 4 w
  have hin := getL_in hB.fit
  have hl := hB.n
  have hs1 : 1 ≤ s := by
    rcases Nat.eq_zero_or_pos s with e | e
    · have := getL_two (xs := bs) (by rw [hs, e]; rfl)
      omega
    · exact e
  have htk := take_yes q b off n c s w hR hs1 (by omega) hc
  have hget := get_any (some ⟨b, off, none⟩) n c bs w (by omega) hB
  have hn' : (0 : Int) < n := by omega
  rw [hs] at hget
  generalize (getL bs).1 = v at *
  clear hR hB hb hin hl hs hs1
  go_enter Try.func48, Try.ntmps48
  go_wp2_with fail
  refine hck.mono ?_
  clear hck
  rintro _ _ ⟨rfl, rfl⟩
  go_wp2_with fail
  refine hget.mono ?_
  clear hget
  rintro _ _ ⟨rfl, rfl⟩
  go_wp2_with fail
  refine hck2.mono ?_
  clear hck2
  rintro _ _ ⟨rfl, rfl⟩
  go_wp2_with fail
  refine htk.mono ?_
  clear htk
  rintro _ w2 ⟨rfl, o2, ho, hR2, hO2⟩
  go_wp2
  go_ret
  exact ⟨rfl, o2, ho, hR2, hO2⟩

/-- The value of a palette: the kinds, noughts behind them, and how many there are. -/
structure IsPal (X : Array Value) (l : List Int) : Prop where
  size : X.size = 18
  many : X[17]? = some (.int .i64 (l.length : Int))
  kinds : ∀ j, j < 17 → X[j]? = some (.int .u8 (l.getD j 0))

theorem kind_no (X : Array Value) (l : List Int) (P : Int) (w : World) (hX : IsPal X l) (h : (l.length : Int) ≤ P) : Calls Try.prog 49 #[.agg X, .int .i64 P] w fun e w' => e = gives 4 ∧ Below w.heap.size w w' := by
  have h17 := hX.many
  have R : Below w.heap.size w (w.alloc (.cells X 48)) := (Below.refl _ _).alloc (Nat.le_refl _) _
  have H2 : Hid (¬ P < (l.length : Int)) := by show ¬ _; omega
  clear hX h
  generalize l.length = K at *
  go_enter Try.func49, Try.ntmps49
  go_wp2_with fail
  refine (check_not (decide_eq_false (by have := H2.out; omega)) 4 _).mono ?_
  rintro _ _ ⟨rfl, rfl⟩
  go_wp2
  exact ⟨rfl, rfl, R⟩
theorem kind_yes (X : Array Value) (l : List Int) (P : Nat) (w : World) (hX : IsPal X l) (hl : l.length ≤ 17) (h : P < l.length) (hb : 0 ≤ l.getD P 0 ∧ l.getD P 0 ≤ 255) : Calls Try.prog 49 #[.agg X, .int .i64 (P : Int)] w fun e w' => e = .returned (.int .i64 (l.getD P 0)) ∧ Below w.heap.size w w' := by
  have h17 := hX.many
  have hP := hX.kinds P (by omega)
  have R : Below w.heap.size w (w.alloc (.cells X 48)) := (Below.refl _ _).alloc (Nat.le_refl _) _
  have H2 : Hid ((P : Int) < (l.length : Int)) := by show (P : Int) < (l.length : Int); omega
  have hp : (P : Int) < 17 := by omega
  clear hX h
  generalize l.length = K at *
  generalize l.getD P 0 = x at *
  obtain ⟨x0, x1⟩ := hb
  go_enter Try.func49, Try.ntmps49
  go_wp2_with fail
  refine (check_is (decide_eq_true (by have := H2.out; omega)) 4 _).mono ?_
  rintro _ _ ⟨rfl, rfl⟩
  go_wp2
  go_ret
  exact ⟨rfl, R⟩

set_option maxHeartbeats 1000000 in
theorem width_c (X : Array Value) (l : List Int) (w : World) (hX : IsPal X l) (hn : l.length ≤ 17) : Calls Try.prog 25 #[.agg X] w fun e w' => e = .returned (.int .i64 (wid l.length : Int)) ∧ Below w.heap.size w w' := by
  have h17 := hX.many
  have RB : Below w.heap.size w (w.alloc (.cells X 48)) := (Below.refl _ _).alloc (Nat.le_refl _) _
  clear hX
  generalize l.length = n at *
  obtain ⟨R, hR⟩ : ∃ R, R = wid n := ⟨_, rfl⟩
  rw [← hR]
  have HR : Hid (R = wid n) := hR
  clear hR
  have hcell : (w.alloc (.cells X 48)).cell? ⟨w.heap.size, 17, none⟩ = some (.int .i64 (n : Int)) := by
    rw [cell_of_row _ w.heap.size 17 X 48 (0, 0) (heap_alloc_new w _)]; exact h17
  go_enter Try.func25, Try.ntmps25
  go_wp2
  clear h17
  generalize w.alloc (.cells X 48) = wa at *
  go_loopw [3] (fun v wr => (v = .int .i64 1 ∨ (v = .int .i64 2 ∧ 2 < n) ∨ (v = .int .i64 4 ∧ 4 < n) ∨ (v = .int .i64 8 ∧ 16 < n)) ∧ Below w.heap.size w wr ∧ Hid (wr.cell? ⟨w.heap.size, 17, none⟩ = some (.int .i64 (n : Int)))) (fun v _ => 8 - (intOf v).toNat)
  case atStart => exact ⟨Or.inl rfl, RB, hcell⟩
  case round =>
    obtain ⟨hv, hb, hcl⟩ := hrel
    have hcl' := hcl.out
    clear hcell RB
    rcases hv with rfl | ⟨rfl, h⟩ | ⟨rfl, h⟩ | ⟨rfl, h⟩
    · by_cases h2 : 2 < n
      · have h2' : (2 : Int) < n := by omega
        clear HR
        go_wp2_with fail
        go_big_quiet (fail)
        go_wp2
        go_roundw
        case rel => exact ⟨Or.inr (Or.inl ⟨rfl, h2⟩), ⟨hb.os, hb.tape, hb.output, hb.size, hb.block⟩, hcl⟩
        case measure => simp [intOf]
      · have h2' : ¬ (2 : Int) < n := by omega
        have e : R = 1 := by rw [HR.out]; unfold wid; rw [if_pos (by omega)]
        subst e
        clear HR
        go_wp2_with fail
        go_big_quiet (fail)
        go_wp2
        go_ret
        exact ⟨rfl, ⟨hb.os, hb.tape, hb.output, hb.size, hb.block⟩⟩
    · by_cases h2 : 4 < n
      · have h2' : (4 : Int) < n := by omega
        clear HR
        go_wp2_with fail
        go_big_quiet (fail)
        go_wp2
        go_roundw
        case rel => exact ⟨Or.inr (Or.inr (Or.inl ⟨rfl, h2⟩)), ⟨hb.os, hb.tape, hb.output, hb.size, hb.block⟩, hcl⟩
        case measure => simp [intOf]
      · have h2' : ¬ (4 : Int) < n := by omega
        have e : R = 2 := by rw [HR.out]; unfold wid; rw [if_neg (by omega), if_pos (by omega)]
        subst e
        clear HR
        go_wp2_with fail
        go_big_quiet (fail)
        go_wp2
        go_ret
        exact ⟨rfl, ⟨hb.os, hb.tape, hb.output, hb.size, hb.block⟩⟩
    · by_cases h2 : 16 < n
      · have h2' : (16 : Int) < n := by omega
        clear HR
        go_wp2_with fail
        go_big_quiet (fail)
        go_wp2
        go_roundw
        case rel => exact ⟨Or.inr (Or.inr (Or.inr ⟨rfl, h2⟩)), ⟨hb.os, hb.tape, hb.output, hb.size, hb.block⟩, hcl⟩
        case measure => simp [intOf]
      · have h2' : ¬ (16 : Int) < n := by omega
        have e : R = 4 := by rw [HR.out]; unfold wid; rw [if_neg (by omega), if_neg (by omega), if_pos (by omega)]
        subst e
        clear HR
        go_wp2_with fail
        go_big_quiet (fail)
        go_wp2
        go_ret
        exact ⟨rfl, ⟨hb.os, hb.tape, hb.output, hb.size, hb.block⟩⟩
    · have h2' : ¬ (256 : Int) < n := by omega
      have e : R = 8 := by rw [HR.out]; unfold wid; rw [if_neg (by omega), if_neg (by omega), if_neg (by omega)]
      subst e
      clear HR
      go_wp2_with fail
      go_big_quiet (fail)
      go_wp2
      go_ret
      exact ⟨rfl, ⟨hb.os, hb.tape, hb.output, hb.size, hb.block⟩⟩
theorem size_c (K : Nat) (w : World) (h : K = 1 ∨ K = 2 ∨ K = 4 ∨ K = 8) : Calls Try.prog 26 #[.int .i64 (K : Int)] w fun e w' => e = .returned (.int .i64 ((4096 * K : Nat) : Int)) ∧ w' = w := by
  rcases h with rfl | rfl | rfl | rfl
  all_goals
    go_enter Try.func26, Try.ntmps26
    go_wp2
    go_ret
    exact ⟨rfl, rfl⟩
end Go.Proofs.Ytdkihhjhjfkjjaa
