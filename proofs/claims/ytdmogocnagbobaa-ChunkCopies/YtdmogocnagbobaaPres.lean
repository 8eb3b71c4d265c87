/-
  Bytes at the beginning of a block: what the document's Set, Fill and Diff make of them.
-/
import Derived.Test.YtdmogocnagbobaaGrow
namespace Go.Proofs.Ytdmogocnagbobaa
open Go.RowKit

/-- The block begins with these bytes. -/
def Pre (w : World) (b : Nat) (t : TypeId) (cs : List Int) : Prop := ∃ cur, w.heap[b]? = some (.cells cur t (0, 0)) ∧ cs.length ≤ cur.size ∧ ∀ k, k < cs.length → cur[k]? = some (.int .u8 (cs.getD k 0))
theorem Pre.lt {w : World} {b : Nat} {t : TypeId} {cs : List Int} (h : Pre w b t cs) : b < w.heap.size := by
  obtain ⟨cur, hc, _⟩ := h
  exact (Array.getElem?_eq_some_iff.1 hc).1
theorem Pre.cell {w : World} {b : Nat} {t : TypeId} {cs : List Int} (h : Pre w b t cs) {k : Nat} (hk : k < cs.length) : w.cell? ⟨b, k, none⟩ = some (.int .u8 (cs.getD k 0)) := by
  obtain ⟨cur, hc, _, he⟩ := h
  rw [cell_of_row w b k cur t (0, 0) hc]
  exact he k hk
theorem Pre.free {w : World} {b : Nat} {t : TypeId} {cs : List Int} (h : Pre w b t cs) (k : Nat) : w.frozen? ⟨b, k, none⟩ = false := by
  obtain ⟨cur, hc, _⟩ := h
  exact frozen_of_row w b k cur t hc
theorem Pre.set {w : World} {b : Nat} {t : TypeId} {cs : List Int} (h : Pre w b t cs) (k : Nat) (x : Int) : Pre (w.setCell ⟨b, k, none⟩ (.int .u8 x)) b t (cs.set k x) := by
  obtain ⟨cur, hc, hl, he⟩ := h
  refine ⟨_, heap_setCell_same w b k _ t _ hc, by rw [List.length_set, Array.size_setIfInBounds]; exact hl, fun j hj => ?_⟩
  rw [List.length_set] at hj
  by_cases e : k = j
  · subst e
    rw [Array.getElem?_setIfInBounds_self_of_lt (by omega), getD_set_self cs k x hj]
  · rw [Array.getElem?_setIfInBounds_ne e, getD_set_ne cs x e]
    exact he j hj
theorem Pre.below {w w' : World} {b n : Nat} {t : TypeId} {cs : List Int} (h : Pre w b t cs) (hb : Below n w w') (hn : b < n) : Pre w' b t cs := by
  obtain ⟨cur, hc, hr⟩ := h
  exact ⟨cur, (hb.block b hn).trans hc, hr⟩
theorem Pre.only {w w' : World} {b g : Nat} {t : TypeId} {cs : List Int} (h : Pre w b t cs) (o : Only g w w') (hb : b ≠ g) : Pre w' b t cs := by
  obtain ⟨cur, hc, hr⟩ := h
  exact ⟨cur, (o.block b hb).trans hc, hr⟩
theorem Pre.src {w : World} {g : Nat} {t : TypeId} {cs : List Int} (h : Pre w g t cs) (hk : Kinds cs) : Src w (some ⟨g, 0, none⟩) cs.length cs :=
  ⟨rfl, fun k hk' => ⟨g, 0, rfl, h.lt, by rw [Nat.zero_add]; exact h.cell hk'⟩, hk.bytes⟩
theorem Pre.conv {w : World} {g c : Nat} {t : TypeId} {cs : List Int} (h : Pre w g t cs) (hl : cs.length = 32768) (hk : Kinds cs) : (convert 25 9 (.slice (some ⟨g, 0, none⟩) 32768 c)).run Try.prog w = .ok (.string (strOfNums cs)) w := by
  have := conv_c (cap := c) (h.src hk)
  rwa [hl] at this

theorem rset_p (g c : Nat) (cs : List Int) (i k : Int) (w : World) (hB : Pre w g 5 cs) (hl : cs.length = 32768) :
    Calls Try.prog 25 #[.slice (some ⟨g, 0, none⟩) 32768 c, .int .i64 i, .int .i64 k] w fun e w' => e = .returned (.bool (okSet i k)) ∧ Pre w' g 5 (setC cs i k) ∧ Only g w w' := by
  by_cases hok : 0 ≤ i ∧ i < 32768 ∧ 0 ≤ k ∧ k ≤ 16
  · obtain ⟨e1, e2⟩ := okSet_yes hok cs
    rw [e1, e2]
    obtain ⟨i0, i1, k0, k1⟩ := hok
    obtain ⟨I, rfl⟩ := Int.eq_ofNat_of_zero_le i0
    have hI : I < 32768 := by omega
    have hc := hB.cell (k := I) (by omega)
    have hf := hB.free I
    generalize cs.getD I 0 = x at hc
    have R1 : Pre (w.setCell ⟨g, I, none⟩ (.int .u8 k)) g 5 (cs.set I k) := hB.set I k
    have R2 : Only g w (w.setCell ⟨g, I, none⟩ (.int .u8 k)) := (Only.refl g w).set I _
    clear hB e1 e2
    simp only [Int.toNat_natCast]
    have n0 : ¬ (I : Int) < 0 := by omega
    have n1 : ¬ (32768 : Int) ≤ I := by omega
    have n2 : ¬ k < 0 := by omega
    have n3 : ¬ 16 < k := by omega
    go_enter Try.func25, Try.ntmps25
    go_wp2
    go_ret
    exact ⟨rfl, R1, R2⟩
  · obtain ⟨e1, e2⟩ := okSet_no hok cs
    rw [e1, e2]
    clear e1 e2
    by_cases i0 : i < 0
    · go_enter Try.func25, Try.ntmps25
      go_wp2
      go_ret
      exact ⟨rfl, hB, Only.refl _ _⟩
    · by_cases i1 : 32768 ≤ i
      · go_enter Try.func25, Try.ntmps25
        go_wp2
        go_ret
        exact ⟨rfl, hB, Only.refl _ _⟩
      · by_cases k0 : k < 0
        · go_enter Try.func25, Try.ntmps25
          go_wp2
          go_ret
          exact ⟨rfl, hB, Only.refl _ _⟩
        · have k1 : 16 < k := by omega
          go_enter Try.func25, Try.ntmps25
          go_wp2
          go_ret
          exact ⟨rfl, hB, Only.refl _ _⟩
set_option maxRecDepth 100000 in
theorem rfill_p (g c : Nat) (cs : List Int) (a b k : Int) (w : World) (hB : Pre w g 5 cs) (hl : cs.length = 32768) :
    Calls Try.prog 23 #[.slice (some ⟨g, 0, none⟩) 32768 c, .int .i64 a, .int .i64 b, .int .i64 k] w fun e w' => e = .returned (.bool (okFill a b k)) ∧ Pre w' g 5 (filC cs a b k) ∧ Only g w w' := by
  by_cases hok : 0 ≤ a ∧ b < 128 ∧ a ≤ b ∧ 0 ≤ k ∧ k ≤ 16
  · obtain ⟨e1, e2⟩ := okFill_yes hok cs
    rw [e1, e2]
    clear e1 e2
    obtain ⟨i0, i1, i2, k0, k1⟩ := hok
    obtain ⟨A, rfl⟩ := Int.eq_ofNat_of_zero_le i0
    obtain ⟨H, rfl⟩ := Int.eq_ofNat_of_zero_le (show 0 ≤ b by omega)
    simp only [Int.toNat_natCast]
    obtain ⟨S, hS⟩ : ∃ S : Nat, S = A * 256 := ⟨_, rfl⟩
    obtain ⟨N, hN⟩ : ∃ N : Nat, N = (H + 1 - A) * 256 := ⟨_, rfl⟩
    rw [← hS, ← hN]
    have hE : ((H : Int) + 1) * 256 = ((S + N : Nat) : Int) := by omega
    have hS' : (A : Int) * 256 = (S : Int) := by omega
    have hSN : S + N ≤ 32768 := by omega
    have hA : A ≤ 127 ∧ H ≤ 127 := by omega
    clear hS hN
    have n0 : ¬ (A : Int) < 0 := by omega
    have n1 : ¬ (128 : Int) ≤ H := by omega
    have n2 : ¬ (H : Int) < A := by omega
    have n3 : ¬ k < 0 := by omega
    have n4 : ¬ 16 < k := by omega
    go_enter Try.func23, Try.ntmps23
    go_wp2
    go_loopw [9] (fun i wr => ∃ n : Nat, n ≤ N ∧ i = .int .i64 ((S + n : Nat) : Int) ∧ Pre wr g 5 (filTo cs S k n) ∧ Only g w wr) (fun i _ => 32768 - (intOf i).toNat)
    case atStart => exact ⟨0, Nat.zero_le _, by simp, hB, Only.refl _ _⟩
    case round =>
      obtain ⟨n, hn, rfl, hB1, ho⟩ := hrel
      by_cases hlt : n < N
      · have hc := hB1.cell (k := S + n) (by rw [filTo_length, hl]; omega)
        have hf := hB1.free (S + n)
        have hlt' : ((S + n : Nat) : Int) < ((S + N : Nat) : Int) := by omega
        generalize (filTo cs S k n).getD (S + n) 0 = x at hc
        have R1 : Pre (wr.setCell ⟨g, S + n, none⟩ (.int .u8 k)) g 5 (filTo cs S k (n + 1)) := hB1.set (S + n) k
        have R2 : Only g w (wr.setCell ⟨g, S + n, none⟩ (.int .u8 k)) := ho.set (S + n) _
        have hlm : S + n < 32768 := by omega
        clear hB1 ho
        go_wp2
        go_roundw
        case rel => exact ⟨n + 1, by omega, by go_num, R1, R2⟩
        case measure => simp [intOf]; omega
      · obtain rfl : n = N := by omega
        go_wp2
        go_ret
        exact ⟨rfl, hB1, ho⟩
  · obtain ⟨e1, e2⟩ := okFill_no hok cs
    rw [e1, e2]
    clear e1 e2
    by_cases i0 : a < 0
    · go_enter Try.func23, Try.ntmps23
      go_wp2
      go_ret
      exact ⟨rfl, hB, Only.refl _ _⟩
    · by_cases i1 : 128 ≤ b
      · go_enter Try.func23, Try.ntmps23
        go_wp2
        go_ret
        exact ⟨rfl, hB, Only.refl _ _⟩
      · by_cases i2 : b < a
        · go_enter Try.func23, Try.ntmps23
          go_wp2
          go_ret
          exact ⟨rfl, hB, Only.refl _ _⟩
        · by_cases k0 : k < 0
          · go_enter Try.func23, Try.ntmps23
            go_wp2
            go_ret
            exact ⟨rfl, hB, Only.refl _ _⟩
          · have k1 : 16 < k := by omega
            go_enter Try.func23, Try.ntmps23
            go_wp2
            go_ret
            exact ⟨rfl, hB, Only.refl _ _⟩
set_option maxRecDepth 100000 in
set_option maxHeartbeats 800000 in
theorem rdiff_p (g h c : Nat) (xs ys : List Int) (w : World) (hX : Blk w g 5 xs) (hY : Pre w h 5 ys) (lx : xs.length = 32768) (ly : ys.length = 32768) :
    Calls Try.prog 27 #[.slice (some ⟨g, 0, none⟩) 32768 32768, .slice (some ⟨h, 0, none⟩) 32768 c] w fun e w' => ∃ v, e = .returned v ∧ Ints w' w.heap.size v (diffTo xs ys 32768) ∧ Below w.heap.size w w' := by
  obtain ⟨i0, hi, hz0, hz1, hz2⟩ := info_parts info3
  have hgl := hX.lt
  have hhl := hY.lt
  go_enter Try.func27, Try.ntmps27
  go_wp2
  go_loopw [5, 6] (fun v i wr => ∃ n : Nat, n ≤ 32768 ∧ i = .int .i64 n ∧ Ints wr w.heap.size v (diffTo xs ys n) ∧ Below w.heap.size w wr) (fun _ i _ => 32768 - (intOf i).toNat)
  case atStart => exact ⟨0, Nat.zero_le _, rfl, ⟨rfl, Or.inl ⟨rfl, rfl⟩⟩, Below.refl _ _⟩
  case round =>
    obtain ⟨n, hn, rfl, hO, hb1⟩ := hrel
    by_cases hlt : n < 32768
    · have hc1 : wr.cell? ⟨g, n, none⟩ = some (.int .u8 (xs.getD n 0)) := (hX.below hb1 hgl).cell (by omega)
      have hc2 : wr.cell? ⟨h, n, none⟩ = some (.int .u8 (ys.getD n 0)) := (hY.below hb1 hhl).cell (by omega)
      have hlt' : (n : Int) < 32768 := by omega
      have hD : Hid (diffTo xs ys (n + 1) = if xs.getD n 0 = ys.getD n 0 then diffTo xs ys n else diffTo xs ys n ++ [(n : Int)]) := rfl
      have hlen := diffTo_length xs ys n
      generalize diffTo xs ys n = L at *
      generalize xs.getD n 0 = p at *
      generalize ys.getD n 0 = q at *
      by_cases e : p = q
      · subst e
        rw [show L = diffTo xs ys (n + 1) by rw [hD.out, if_pos rfl]] at hO
        clear hD
        go_wp2_with fail
        go_quiet (fail)
        go_wp2
        go_roundw
        case rel => exact ⟨n + 1, by omega, by go_num, hO, ⟨hb1.os, hb1.tape, hb1.output, hb1.size, hb1.block⟩⟩
        case measure => simp [intOf]; omega
      · have hD' : diffTo xs ys (n + 1) = L ++ [(n : Int)] := by rw [hD.out, if_neg e]
        have HD : Hid (diffTo xs ys (n + 1) = L ++ [(n : Int)]) := hD'
        have hne : (p != q) = true := by simp [e]
        clear hD hD' e
        go_wp2_with fail
        go_quiet (fail)
        have hb2 : Below w.heap.size w (wr.drewN nq) := ⟨hb1.os, hb1.tape, hb1.output, hb1.size, hb1.block⟩
        have hO2 : (wr.drewN nq).ownsRow w.heap.size 3 1 _ L.length (L.map (Value.int .i64)) := hO
        have hs2 : w.heap.size ≤ (wr.drewN nq).heap.size := hb2.size
        clear hO hb1 hc1 hc2
        generalize wr.drewN nq = W at *
        go_wp2_with (at_builtin; refine wpList_append_own _ rfl _ _ 28 rfl w.heap.size 3 i0 (.int .i64 0) 1 8 Try.underlying28 hi hz0 hz1 hz2 rfl (by decide) _ _ _ rfl (hO2.alloc _) ⟨W.heap.size, 0, none⟩ 1 1 [.int .i64 (n : Int)] rfl rfl (cell_one_new _ _ _) (ints_oneCell .i64 [(n : Int)]) (by unfold maxLen; omega) (by omega) (by simp; omega) ?_; intro v' w3 hown' hgrow _)
        have R1 : Ints w3 w.heap.size v' (diffTo xs ys (n + 1)) := by
          rw [HD.out]
          unfold Ints
          rw [List.length_append, List.map_append]
          exact hown'
        have R2 : Below w.heap.size w w3 := (hb2.alloc hs2 _).grown hgrow (by simp; omega) (fun k hk => (hO2.lt k hk).1)
        clear hown' hgrow hO2 hb2
        go_wp2
        go_roundw
        case rel => exact ⟨n + 1, by omega, by go_num, R1, R2⟩
        case measure => simp [intOf]; omega
    · obtain rfl : n = 32768 := by omega
      go_wp2
      go_ret
      exact ⟨_, rfl, hO, hb1⟩

/-- The cells behind the first n of further calls. -/
def actTo (cs : List Int) (l : List Op4) : Nat → List Int
  | 0 => cs
  | n + 1 => match l[n]? with | some x => act (actTo cs l n) x | none => actTo cs l n
theorem actTo_length (cs : List Int) (l : List Op4) : ∀ n, (actTo cs l n).length = cs.length
  | 0 => rfl
  | n + 1 => by unfold actTo; split <;> simp [act_length, actTo_length cs l n]
theorem actTo_kinds {cs : List Int} (h : Kinds cs) (l : List Op4) : ∀ n, Kinds (actTo cs l n)
  | 0 => h
  | n + 1 => by unfold actTo; split; exact (actTo_kinds h l n).act _; exact actTo_kinds h l n
theorem actTo_succ (cs : List Int) {l : List Op4} {n : Nat} {x : Op4} (hx : l[n]? = some x) : actTo cs l (n + 1) = act (actTo cs l n) x := by
  rw [show actTo cs l (n + 1) = (match l[n]? with | some x => act (actTo cs l n) x | none => actTo cs l n) from rfl, hx]
theorem diffTo_comm (xs ys : List Int) : ∀ n, diffTo ys xs n = diffTo xs ys n
  | 0 => rfl
  | n + 1 => by
    unfold diffTo
    rw [diffTo_comm xs ys n]
    by_cases e : xs.getD n 0 = ys.getD n 0
    · rw [if_pos e, if_pos e.symm]
    · rw [if_neg e, if_neg (Ne.symm e)]
/-- Numbers in a slice that lies at the beginning of its block. -/
def At64 (w : World) (a : Option Addr) (l : List Int) : Prop := ∀ k, k < l.length → ∃ g, a = some ⟨g, 0, none⟩ ∧ g < w.heap.size ∧ w.cell? ⟨g, k, none⟩ = some (.int .i64 (l.getD k 0))
theorem At64.on {w w' : World} {a : Option Addr} {l : List Int} (h : At64 w a l) (hb : Below w.heap.size w w') : At64 w' a l := fun k hk => by
  obtain ⟨g, e, hlt, hc⟩ := h k hk
  exact ⟨g, e, Nat.lt_of_lt_of_le hlt hb.size, (hb.cell (p := ⟨g, k, none⟩) hlt).trans hc⟩
theorem At64.drewN {w : World} {a : Option Addr} {l : List Int} (h : At64 w a l) (n : Nat) : At64 (w.drewN n) a l := h
theorem Ints.open {w : World} {base : Nat} {v : Value} {l : List Int} (h : Ints w base v l) : ∃ a cap, v = .slice a l.length cap ∧ At64 w a l := by
  obtain ⟨_, ⟨rfl, h0⟩ | ⟨g, cap, cur, rfl, _, hg, _, _, _, ht⟩⟩ := h
  · exact ⟨none, 0, by rw [h0], fun k hk => by omega⟩
  · refine ⟨_, cap, rfl, fun k hk => ⟨g, rfl, (Array.getElem?_eq_some_iff.1 hg).1, ?_⟩⟩
    rw [cell_of_row w g k cur 3 (0, 0) hg]
    have h1 : (cur.toList.take (l.length * 1))[k]? = (l.map (Value.int .i64))[k]? := by rw [ht]
    rw [List.getElem?_take, if_pos (by omega), List.getElem?_map, List.getElem?_eq_getElem hk] at h1
    rw [← Array.getElem?_toList, h1, List.getD_eq_getElem?_getD, List.getElem?_eq_getElem hk]
    rfl
theorem own_pre {w : World} {base : Nat} {v : Value} {cs : List Int} (hl : cs.length = 32768) (h : w.ownsRow base 5 1 v 32768 (cs.map (Value.int .u8))) : ∃ o c, v = .slice (some ⟨o, 0, none⟩) 32768 c ∧ base ≤ o ∧ Pre w o 5 cs := by
  obtain ⟨_, ⟨_, h0⟩ | ⟨g, cap, cur, rfl, hb, hg, hc, _, hs, ht⟩⟩ := h
  · cases h0
  · refine ⟨g, cap, rfl, hb, cur, hg, by omega, fun k hk => ?_⟩
    have h1 : (cur.toList.take (32768 * 1))[k]? = (cs.map (Value.int .u8))[k]? := by rw [ht]
    rw [List.getElem?_take, if_pos (by omega), List.getElem?_map, List.getElem?_eq_getElem hk] at h1
    rw [← Array.getElem?_toList, h1, List.getD_eq_getElem?_getD, List.getElem?_eq_getElem hk]
    rfl
/-- Two chunks and their bytes. -/
structure Five (w : World) (g d o : Nat) (cs ds : List Int) : Prop where
  c : Blk w g 59 cs
  b : Blk w (g + 1) 5 cs
  d : Blk w d 59 ds
  o : Pre w o 5 ds
theorem Five.on {w w' : World} {g d o : Nat} {cs ds : List Int} (h : Five w g d o cs ds) (hb : Below w.heap.size w w') : Five w' g d o cs ds := ⟨h.c.below hb h.c.lt, h.b.below hb h.b.lt, h.d.below hb h.d.lt, h.o.below hb h.o.lt⟩
theorem Five.only {w w' : World} {g d o x : Nat} {cs ds : List Int} (h : Five w g d o cs ds) (ho : Only x w w') (h1 : g ≠ x) (h2 : g + 1 ≠ x) (h3 : d ≠ x) (h4 : o ≠ x) : Five w' g d o cs ds := ⟨h.c.only ho h1, h.b.only ho h2, h.d.only ho h3, h.o.only ho h4⟩
theorem Five.drewN {w : World} {g d o : Nat} {cs ds : List Int} (h : Five w g d o cs ds) (n : Nat) : Five (w.drewN n) g d o cs ds := ⟨h.c, h.b, h.d, h.o⟩
end Go.Proofs.Ytdmogocnagbobaa
