/-
  Counts, of the document: how many cells there are of each kind.
-/
import Derived.Test.YtdkihhjhjfkjjaaTops
namespace Go.Proofs.Ytdkihhjhjfkjjaa
open Go.RowKit

/-- Numbers of 64 bits in a block. -/
def vals64 (l : List Int) : Array Value := (l.map (Value.int .i64)).toArray
def B64k (w : World) (b : Nat) (t : TypeId) (l : List Int) : Prop := w.heap[b]? = some (.cells (vals64 l) t (0, 0))
theorem B64k.cell {w : World} {b : Nat} {t : TypeId} {l : List Int} (h : B64k w b t l) {k : Nat} (hk : k < l.length) : w.cell? ⟨b, k, none⟩ = some (.int .i64 (l.getD k 0)) := by
  rw [cell_of_row w b k _ t (0, 0) h]
  simp [vals64, hk]
theorem B64k.free {w : World} {b : Nat} {t : TypeId} {l : List Int} (h : B64k w b t l) (k : Nat) : w.frozen? ⟨b, k, none⟩ = false := frozen_of_row w b k _ t h
theorem B64k.set {w : World} {b : Nat} {t : TypeId} {l : List Int} (h : B64k w b t l) (k : Nat) (x : Int) : B64k (w.setCell ⟨b, k, none⟩ (.int .i64 x)) b t (l.set k x) := by
  unfold B64k
  rw [heap_setCell_same w b k _ t _ h]
  simp [vals64]
theorem B64k.new (w : World) (t : TypeId) (l : List Int) : B64k (w.alloc (.cells (vals64 l) t)) w.heap.size t l := heap_alloc_new w _
theorem made_vals64 (n : Nat) : madeCells #[.int .i64 0] n = vals64 (List.replicate n 0) := by
  apply Array.ext
  · simp [madeCells, vals64]
  · intro i h1 h2
    simp [madeCells, vals64]
    rw [Nat.mod_one]
    rfl
theorem make17 (w : World) : (Instr.makeSlice 23 (.int .i64 17) (.int .i64 17)).run Try.prog w = .ok (.slice (some ⟨w.heap.size, 0, none⟩) 17 17) (w.alloc (.cells (vals64 (List.replicate 17 0)) 3)) := by
  have := run_make_row' (P := Try.prog) 23 3 (.int .i64 0) 8 Try.underlying23 info3 rfl .i64 .i64 17 (by omega) (by omega) w
  rw [made_vals64] at this
  exact this

/-- The numbers of kinds among the first n cells. -/
def cntTo (cs : List Int) : Nat → List Int
  | 0 => List.replicate 17 0
  | n + 1 => (cntTo cs n).set (cs.getD n 0).toNat ((cntTo cs n).getD (cs.getD n 0).toNat 0 + 1)
theorem cntTo_length (cs : List Int) : ∀ n, (cntTo cs n).length = 17
  | 0 => rfl
  | n + 1 => by unfold cntTo; rw [List.length_set, cntTo_length cs n]
theorem cntTo_at (cs : List Int) (n j : Nat) (hj : j < 17) : 0 ≤ (cntTo cs n).getD j 0 ∧ (cntTo cs n).getD j 0 ≤ n := by
  induction n with
  | zero =>
    have : (cntTo cs 0).getD j 0 = 0 := by
      unfold cntTo
      rw [List.getD_eq_getElem?_getD, List.getElem?_replicate_of_lt hj]
      rfl
    rw [this]
    omega
  | succ n ih =>
    unfold cntTo
    rw [List.getD_eq_getElem?_getD]
    by_cases e : (cs.getD n 0).toNat = j
    · rw [e, List.getElem?_set_self (by rw [cntTo_length]; exact hj)]
      simp only [Option.getD_some]
      omega
    · rw [List.getElem?_set_ne e, ← List.getD_eq_getElem?_getD]
      omega

set_option maxRecDepth 100000 in
theorem rcounts_c (g : Nat) (cs : List Int) (w : World) (hB : Blk w g 5 cs) (hl : cs.length = 32768) (hk : Kinds cs) :
    Calls Try.prog 40 #[.slice (some ⟨g, 0, none⟩) 32768 32768] w fun e w' => e = .returned (.slice (some ⟨w.heap.size, 0, none⟩) 17 17) ∧ B64k w' w.heap.size 3 (cntTo cs 32768) ∧ Below w.heap.size w w' := by
  have hmk := make17
  have hb := B64k.new w 3 (cntTo cs 0)
  have hg := hB.lt
  rw [show List.replicate 17 (0 : Int) = cntTo cs 0 from rfl] at hmk
  generalize hL : cntTo cs 0 = L at hmk hb
  go_enter Try.func40, Try.ntmps40
  go_wp2
  subst hL
  go_loopw [4] (fun i wr => ∃ n : Nat, n ≤ 32768 ∧ i = .int .i64 n ∧ B64k wr w.heap.size 3 (cntTo cs n) ∧ Below w.heap.size w wr) (fun i _ => 32768 - (intOf i).toNat)
  case atStart => exact ⟨0, Nat.zero_le _, rfl, hb, (Below.refl _ _).alloc (Nat.le_refl _) _⟩
  case round =>
    obtain ⟨n, hn, rfl, hC, hb1⟩ := hrel
    by_cases hlt : n < 32768
    · have hc : wr.cell? ⟨g, n, none⟩ = some (.int .u8 (cs.getD n 0)) := (hB.below hb1 hg).cell (by omega)
      obtain ⟨v0, v1⟩ := hk.at n
      obtain ⟨V, hV⟩ := Int.eq_ofNat_of_zero_le v0
      have hV17 : V < 17 := by omega
      have hd := hC.cell (k := V) (by rw [cntTo_length]; exact hV17)
      have hf := hC.free V
      obtain ⟨c0, c1⟩ := cntTo_at cs n V hV17
      have R1 : B64k (wr.setCell ⟨w.heap.size, V, none⟩ (.int .i64 ((cntTo cs n).getD V 0 + 1))) w.heap.size 3 (cntTo cs (n + 1)) := by
        have := hC.set V ((cntTo cs n).getD V 0 + 1)
        rw [show cntTo cs (n + 1) = (cntTo cs n).set (cs.getD n 0).toNat ((cntTo cs n).getD (cs.getD n 0).toNat 0 + 1) from rfl, hV, Int.toNat_natCast]
        exact this
      have R2 : Below w.heap.size w (wr.setCell ⟨w.heap.size, V, none⟩ (.int .i64 ((cntTo cs n).getD V 0 + 1))) := hb1.setCell (p := ⟨w.heap.size, V, none⟩) (Nat.le_refl _) _
      rw [hV] at hc
      have hlt' : (n : Int) < 32768 := by omega
      have hg' : ¬ g = w.heap.size := by omega
      generalize (cntTo cs n).getD V 0 = c at *
      clear hC hb1 hV v0 v1
      go_wp2
      go_roundw
      case rel => exact ⟨n + 1, by omega, by go_num, R1, R2⟩
      case measure => simp [intOf]; omega
    · obtain rfl : n = 32768 := by omega
      go_wp2
      go_ret
      exact ⟨rfl, hC, hb1⟩

/-- Is a byte above 16 among the first n? -/
def badTo (bs : List Int) : Nat → Bool
  | 0 => false
  | n + 1 => badTo bs n || decide (16 < bs.getD n 0)
theorem badTo_mono (bs : List Int) {n m : Nat} (h : n ≤ m) (hb : badTo bs n = true) : badTo bs m = true := by
  induction m with
  | zero => obtain rfl : n = 0 := by omega
            exact hb
  | succ m ih =>
    by_cases e : n = m + 1
    · subst e; exact hb
    · unfold badTo; rw [ih (by omega)]; rfl
/-- What is wrong with bytes. -/
def mayC (bs : List Int) : Int := if bs.length < 32768 then 3 else if 32768 < bs.length then 2 else if badTo bs 32768 then 10 else 0

end Go.Proofs.Ytdkihhjhjfkjjaa
