/-
  The document's space: New and Take.
-/
import Derived.Test.YtffhnecdmdmmkaaSmark
set_option maxRecDepth 20000
namespace Go.Proofs.Ytffhnecdmdmmkaa
open Go.RowKit

/-- What Take answers, and the numbers behind it. -/
def tkS (h : Nat) (T : List Bool) (n : Int) : Int × Int × List Bool := if n < 1 then (0, 1, T) else match takeS h T n.toNat with | some i => ((i : Int), 0, setS T i n.toNat true) | none => (0, 7, T)
theorem mayB_take {h : Nat} {T : List Bool} {i : Nat} {n : Int} (hn : 1 ≤ n) (h1 : h ≤ i) (h2 : i < T.length) : mayB h T (i : Int) n false = (decide (i + n.toNat ≤ T.length) && allS T i n.toNat false) := by
  unfold mayB
  congr 1
  by_cases hx : i + n.toNat ≤ T.length
  · rw [decide_eq_true hx, decide_eq_true (by omega)]
  · rw [decide_eq_false hx, decide_eq_false (by omega)]
theorem tkS_some {h : Nat} {T : List Bool} {i : Nat} {n : Int} (hn : 1 ≤ n) (h1 : h ≤ i) (h2 : i < T.length) (hp : mayB h T (i : Int) n false = true) (hl : ∀ j, h ≤ j → j < i → mayB h T (j : Int) n false = false) : tkS h T n = ((i : Int), 0, setS T i n.toNat true) := by
  unfold tkS takeS
  rw [if_neg (by omega), find_range' _ _ _ i h1 (by omega) (by rw [← mayB_take hn h1 h2]; exact hp) (fun j h3 h4 => by rw [← mayB_take hn h3 (by omega)]; exact hl j h3 h4)]
theorem tkS_none {h : Nat} {T : List Bool} {n : Int} (hn : 1 ≤ n) (hh : h ≤ T.length) (hl : ∀ j, h ≤ j → j < T.length → mayB h T (j : Int) n false = false) : tkS h T n = (0, 7, T) := by
  unfold tkS takeS
  rw [if_neg (by omega), find_none _ _ _ (fun j h3 h4 => by rw [← mayB_take hn h3 (by omega)]; exact hl j h3 (by omega))]
def RTakeSay (g tb h : Nat) (T : List Bool) (n : Int) (w : World) (e : Ending) (w' : World) : Prop := e = .returned (.tuple #[.int .i64 (tkS h T n).1, .int .i64 (tkS h T n).2.1]) ∧ RS w' g tb h (tkS h T n).2.2 ∧ Chg (fun k => k = tb) w w'
theorem Chg.same {tb : Nat} {a b c : World} (h : Chg (fun k => k = tb) a b) (k : Chg (fun k => k = tb) b c) : Chg (fun k => k = tb) a c := h.trans k (fun _ hj => Or.inl hj)
set_option maxHeartbeats 1000000 in
theorem rtake_c (g tb h : Nat) (T : List Bool) (n : Int) (hn : I64 n) (w : World) (H : RS w g tb h T) :
    Calls Try.prog 15 #[.pointer (some ⟨g, 0, none⟩), .int .i64 n] w (RTakeSay g tb h T n w) := by
  obtain ⟨Post, hPost⟩ : ∃ Post, Post = RTakeSay g tb h T n w := ⟨_, rfl⟩
  rw [← hPost]
  have HP : Hid (∀ a E T' w', tkS h T n = (a, E, T') → RS w' g tb h T' → Chg (fun k => k = tb) w w' → Post (.returned (.tuple #[.int .i64 a, .int .i64 E])) w') := fun a E T' w' h1 h2 h3 => by rw [hPost]; exact ⟨by rw [h1], by rw [h1]; exact h2, h3⟩
  clear hPost
  have HR0 : Hid (RS w g tb h T) := H
  have hl := H.le
  have hfew := H.few
  by_cases h1 : n < 1
  · have R := HP.out 0 1 T w (by unfold tkS; rw [if_pos h1]) H (Chg.refl _ _)
    clear HP H HR0
    go_enter Try.func15, Try.ntmps15
    go_wp2
    exact R
  · obtain ⟨c0, c1⟩ := H.cells
    obtain ⟨N, hN⟩ : ∃ N, N = T.length := ⟨_, rfl⟩
    rw [← hN] at hl hfew c1
    have HN : Hid (T.length = N) := hN.symm
    clear H hN
    go_enter Try.func15, Try.ntmps15
    go_wp2_with fail
    go_loopw [6] (fun v wr => ∃ (i : Nat), h ≤ i ∧ i ≤ N ∧ v = .int .i64 (i : Int) ∧ Hid (∀ j, h ≤ j → j < i → mayB h T (j : Int) n false = false) ∧ Hid (RS wr g tb h T) ∧ Hid (Chg (fun k => k = tb) w wr)) (fun v _ => N - (intOf v).toNat)
    case atStart => exact ⟨h, Nat.le_refl _, hl, rfl, fun j h3 h4 => by omega, HR0, Chg.refl _ _⟩
    case round =>
      clear c0 c1 HR0
      obtain ⟨i, hi1, hi2, rfl, HA, HR, HC⟩ := hrel
      obtain ⟨c0, c1⟩ := HR.out.cells
      rw [HN.out] at c1
      by_cases hlt : i < N
      · have hlt' : (i : Int) < N := by omega
        go_wp2_with fail
        refine (rmark_c g tb h T (i : Int) n ⟨by omega, by omega⟩ hn wr HR.out).mono ?_
        rintro _ w2 ⟨rfl, hR2, hC2⟩
        unfold erS
        unfold doS at hR2
        cases hmay : mayB h T (i : Int) n false with
        | true =>
          rw [hmay] at hR2
          have R := HP.out (i : Int) 0 _ w2 (tkS_some (by omega) hi1 (by rw [HN.out]; exact hlt) hmay HA.out) hR2 (HC.out.same hC2)
          clear HP HA HR HC hR2 hC2 hmay c0 c1
          go_wp2
          exact R
        | false =>
          rw [hmay] at hR2
          have HA2 : Hid (∀ j, h ≤ j → j < i + 1 → mayB h T (j : Int) n false = false) := fun j h3 h4 => by
            by_cases e : j = i
            · rw [e]; exact hmay
            · exact HA.out j h3 (by omega)
          have HR2 : Hid (RS w2 g tb h T) := hR2
          have HC2 : Hid (Chg (fun k => k = tb) w w2) := HC.out.same hC2
          clear HP HA HR HC hR2 hC2 hmay c0 c1
          go_wp2
          go_roundw
          case rel => exact ⟨i + 1, by omega, by omega, by go_num, HA2, HR2, HC2⟩
          case measure => simp [intOf]; omega
      · obtain rfl : i = N := by omega
        have R := HP.out 0 7 T wr (tkS_none (by omega) (by rw [HN.out]; exact hl) (fun j h3 h4 => HA.out j h3 (by rw [HN.out] at h4; exact h4))) HR.out HC.out
        clear HP HA HR HC
        go_wp2
        exact R
/-- What New of the document answers. -/
def RNewSay (n h : Int) (w : World) (e : Ending) (w' : World) : Prop := Below w.heap.size w w' ∧ ((h < 0 ∨ n < h ∨ 4096 < n) ∧ e = .returned (.tuple #[.pointer none, .int .i64 1]) ∨ ¬ (h < 0 ∨ n < h ∨ 4096 < n) ∧ ∃ g tb, w.heap.size ≤ g ∧ w.heap.size ≤ tb ∧ e = .returned (.tuple #[.pointer (some ⟨g, 0, none⟩), .int .i64 0]) ∧ RS w' g tb h.toNat (List.replicate n.toNat false))
theorem info4 : (Try.prog.info? 4).map (fun i => (i.zero, i.size, i.bytes)) = some (some (.bool false), 1, 1) := by kernel_rfl
theorem own_full {w : World} {base g N : Nat} {e : TypeId} {xs : List Value} (h : w.ownsRow base e 1 (.slice (some ⟨g, 0, none⟩) N N) N xs) : w.heap[g]? = some (.cells xs.toArray e (0, 0)) := by
  rcases h.2 with ⟨h', _⟩ | ⟨g', cap, cur, hv, _, hh, _, _, hs, ht⟩
  · simp at h'
  · simp only [Value.slice.injEq, Option.some.injEq, Addr.mk.injEq, and_true, true_and] at hv
    obtain ⟨rfl, rfl⟩ := hv
    rw [hh]
    have e1 : cur.toList = xs := by
      rw [List.take_of_length_le (by simp; omega)] at ht
      exact ht
    rw [← e1]
set_option maxHeartbeats 1000000 in
theorem rnew_c (n h : Int) (hn : I64 n) (hh : I64 h) (w : World) : Calls Try.prog 10 #[.int .i64 n, .int .i64 h] w (RNewSay n h w) := by
  obtain ⟨Post, hPost⟩ : ∃ Post, Post = RNewSay n h w := ⟨_, rfl⟩
  rw [← hPost]
  have HP : Hid (∀ e w', RNewSay n h w e w' → Post e w') := fun e w' h => by rw [hPost]; exact h
  clear hPost
  by_cases hbad : h < 0 ∨ n < h ∨ 4096 < n
  · have R := HP.out _ w ⟨Below.refl _ _, Or.inl ⟨hbad, rfl⟩⟩
    clear HP
    have d1 : (decide (h < 0) || decide (n < h) || decide (4096 < n)) = true := by
      simp only [Bool.or_eq_true, decide_eq_true_iff]
      omega
    by_cases h1 : h < 0
    · go_enter Try.func10, Try.ntmps10
      go_wp2
      exact R
    · by_cases h2 : n < h
      · go_enter Try.func10, Try.ntmps10
        go_wp2
        exact R
      · have h3 : 4096 < n := by omega
        go_enter Try.func10, Try.ntmps10
        go_wp2
        exact R
  · have h1 : ¬ h < 0 := by omega
    have h2 : ¬ n < h := by omega
    have h3 : ¬ 4096 < n := by omega
    obtain ⟨i4, hi4, hz0, hz1, hz2⟩ := info_parts info4
    obtain ⟨N, rfl⟩ := Int.eq_ofNat_of_zero_le (show 0 ≤ n by omega)
    obtain ⟨Hd, rfl⟩ := Int.eq_ofNat_of_zero_le (show 0 ≤ h by omega)
    have Hbad : Hid (¬ ((Hd : Int) < 0 ∨ (N : Int) < Hd ∨ 4096 < (N : Int))) := hbad
    clear hbad
    go_enter Try.func10, Try.ntmps10
    go_wp2_with (at_make; refine wpList_make_full _ rfl _ _ 46 rfl w.heap.size 4 i4 _ 1 Try.underlying46 hi4 hz0 hz1 .i64 .i64 (N : Int) (N : Int) N rfl rfl rfl rfl (by rw [hz2]; omega) (by unfold maxLen; omega) (Nat.le_refl _) ?_; intro w1 hrow1 hg1)
    have hrow := own_full hrow1
    have hb1 : Below w.heap.size w w1 := (Below.refl _ _).grown hg1 (Nat.le_refl _) (by simp)
    have hlt1 : w.heap.size < w1.heap.size := (Array.getElem?_eq_some_iff.1 hrow).1
    refine HP.out _ _ ⟨hb1.alloc hb1.size _, Or.inr ⟨Hbad.out, w1.heap.size, w.heap.size, hb1.size, Nat.le_refl _, rfl, ?_⟩⟩
    refine ⟨?_, ?_, by omega, by rw [List.length_replicate]; omega, by rw [List.length_replicate]; omega⟩
    · rw [List.length_replicate]
      exact heap_alloc_new w1 _
    · rw [heap_alloc_old _ _ hlt1, hrow]
      congr 2
      simp [bvals, madeCells, Value.cells, Nat.mod_one]
      rw [List.map_const', List.length_range, List.toArray_replicate]
end Go.Proofs.Ytffhnecdmdmmkaa
