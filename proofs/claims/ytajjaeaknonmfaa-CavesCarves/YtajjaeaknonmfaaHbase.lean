/-
  Memory: rows of numbers; what is asked of a height's package, as a structure: the laws are walked over it. The document's Of and Band.
-/
import Derived.Test.YtajjaeaknonmfaaHmath
import Derived.Deep.MidRow
import Derived.Deep.OwnRows
import Derived.Deep.WholeRow
import Derived.Laws.AppendOwnNone
import Derived.Laws.OwnMore
import Derived.Deep.AppendLies
import Derived.Maps.AppendAt
import Derived.Lib.Walk
import Derived.StillTailTactics
set_option maxRecDepth 20000
namespace Go.Proofs.Ytajjaeaknonmfaa
open N Go.RowKit

def I64 (x : Int) : Prop := -9223372036854775808 ≤ x ∧ x ≤ 9223372036854775807
def Far (n : Int) (x : Int) : Prop := -n ≤ x ∧ x ≤ n
theorem cell_below {w w' : World} {b j : Nat} {v : Value} (hv : w.cell? ⟨b, j, none⟩ = some v) (hb : Below w.heap.size w w') : w'.cell? ⟨b, j, none⟩ = some v :=
  (hb.cell (p := ⟨b, j, none⟩) (World.block_lt_of_cell? w _ hv)).trans hv
/-- A row of numbers. -/
def ColsAt (w : World) (a : Option Addr) (xs : List Int) : Prop := ∃ b off, a = some ⟨b, off, none⟩ ∧ ∀ j (h : j < xs.length), w.cell? ⟨b, off + j, none⟩ = some (.int .i64 xs[j])
theorem ColsAt.on {w w' : World} {a : Option Addr} {xs : List Int} (h : ColsAt w a xs) (hb : Below w.heap.size w w') : ColsAt w' a xs := by
  obtain ⟨b, off, e, hc⟩ := h
  exact ⟨b, off, e, fun j hj => cell_below (hc j hj) hb⟩
/-! ### what is asked -/
/-! ### the document's -/
theorem rof_c (S : Nat) (x z : Int) (w : World) (hS : S < 18446744073709551616) (hx : I64 x) (hz : I64 z) :
    Calls Try.prog 40 #[.int .u64 S, .int .i64 x, .int .i64 z] w fun e w' => e = .returned (.int .i64 (hOf S x z)) ∧ Below w.heap.size w w' := by
  obtain ⟨Post, hPost⟩ : ∃ Post : Ending → World → Prop, Post = fun e w' => e = .returned (.int .i64 (hOf S x z)) ∧ Below w.heap.size w w' := ⟨_, rfl⟩
  rw [← hPost]
  have HP : Hid (∀ v w', v = hOf S x z → Below w.heap.size w w' → Post (.returned (.int .i64 v)) w') := fun v w' h1 h2 => by rw [hPost]; exact ⟨by rw [h1], h2⟩
  clear hPost
  go_enter Try.func40, Try.ntmps40
  go_wp2_with fail
  refine (roctaves_any S 10 x z 6 4 w hS (by omega) hx hz (by omega)).mono ?_
  rintro _ w1 ⟨rfl, hb1⟩
  have hO := octN_bd S 10 x z 6 4
  have R := HP.out (20 + 72 * octN S 10 x z 6 4 / 65536) w1 rfl hb1
  clear HP hb1
  generalize octN S 10 x z 6 4 = O at *
  have e1 : Int.tdiv (72 * O) 65536 = 72 * O / 65536 := Int.tdiv_eq_ediv_of_nonneg (by omega)
  go_wp2
  exact R
theorem rband_c (S : Nat) (x z : Int) (w : World) (hS : S < 18446744073709551616) (hx : I64 x) (hz : I64 z) :
    Calls Try.prog 41 #[.int .u64 S, .int .i64 x, .int .i64 z] w fun e w' => e = .returned (.int .i64 (bandOf S x z)) ∧ Below w.heap.size w w' := by
  obtain ⟨Post, hPost⟩ : ∃ Post : Ending → World → Prop, Post = fun e w' => e = .returned (.int .i64 (bandOf S x z)) ∧ Below w.heap.size w w' := ⟨_, rfl⟩
  rw [← hPost]
  have HP : Hid (∀ v w', v = bandOf S x z → Below w.heap.size w w' → Post (.returned (.int .i64 v)) w') := fun v w' h1 h2 => by rw [hPost]; exact ⟨by rw [h1], h2⟩
  clear hPost
  go_enter Try.func41, Try.ntmps41
  go_wp2_with fail
  refine (roctaves_any S 11 x z 7 2 w hS (by omega) hx hz (by omega)).mono ?_
  rintro _ w1 ⟨rfl, hb1⟩
  have R := fun v h => HP.out v w1 h hb1
  clear HP hb1
  unfold bandOf at R
  generalize octN S 11 x z 7 2 = O at *
  by_cases h1 : O < 16000
  · have R := R 2 (by rw [if_pos h1])
    go_wp2
  · by_cases h2 : O < 25000
    · have R := R 0 (by rw [if_neg h1, if_pos h2])
      go_wp2
    · by_cases h3 : O < 36000
      · have R := R 1 (by rw [if_neg h1, if_neg h2, if_pos h3])
        go_wp2
      · have R := R 3 (by rw [if_neg h1, if_neg h2, if_neg h3])
        go_wp2
/-! ### rows that one has made oneself -/
def ivs (xs : List Int) : List Value := xs.map (Value.int .i64)
def OwnI (w : World) (lo : Nat) (a : Option Addr) (c : Nat) (xs : List Int) : Prop := w.ownsRow lo 3 1 (.slice a xs.length c) xs.length (ivs xs)
theorem info3 : (Try.prog.info? 3).map (fun i => (i.zero, i.size, i.bytes)) = some (some (.int .i64 0), 1, 8) := by kernel_rfl
theorem ownsRow_cell {W : World} {b e size k cap : Nat} {g : Nat} {xs : List Value} (h : W.ownsRow b e size (.slice (some ⟨g, 0, none⟩) k cap) k xs) (j : Nat) (hj : j < k * size) : W.cell? ⟨g, j, none⟩ = xs[j]? := by
  rcases h.2 with ⟨h0, _⟩ | ⟨g', cap', cur, hv, _, hh, _, _, _, ht⟩
  · simp at h0
  · simp only [Value.slice.injEq, Option.some.injEq, Addr.mk.injEq, and_true, true_and] at hv
    obtain ⟨rfl, rfl⟩ := hv
    rw [cell_of_row W g j cur e (0, 0) hh, ← ht, List.getElem?_take, if_pos hj]
    simp
theorem ownsRow_on {W W' : World} {b e size k : Nat} {v : Value} {xs : List Value} (h : W.ownsRow b e size v k xs) (hB : Below W.heap.size W W') : W'.ownsRow b e size v k xs := by
  refine ⟨h.1, ?_⟩
  rcases h.2 with h0 | ⟨g, cap, cur, hv, hb, hh, hr⟩
  · exact .inl h0
  · exact .inr ⟨g, cap, cur, hv, hb, (hB.block g (Array.getElem?_eq_some_iff.1 hh).1).trans hh, hr⟩
theorem ownsRow_apart {W W' : World} {b e size k : Nat} {v : Value} {xs : List Value} {r : Option Nat} (h : W.ownsRow b e size v k xs) (hg : W.grownBy W' r) (hne : ∀ g, v.ownBlock = some g → r ≠ some g) : W'.ownsRow b e size v k xs := by
  refine ⟨h.1, ?_⟩
  rcases h.2 with h0 | ⟨g, cap, cur, hv, hb, hh, hr⟩
  · exact .inl h0
  · refine .inr ⟨g, cap, cur, hv, hb, (hg.block g (Array.getElem?_eq_some_iff.1 hh).1 (fun e' => ?_)).trans hh, hr⟩
    subst hv
    exact hne g rfl e'.symm
theorem OwnI.cols {w : World} {lo c : Nat} {a : Option Addr} {xs : List Int} (h : OwnI w lo a c xs) (h0 : 0 < xs.length) : ColsAt w a xs := by
  unfold OwnI at h
  obtain ⟨g, rfl⟩ : ∃ g, a = some ⟨g, 0, none⟩ := by
    rcases h.2 with ⟨_, h1⟩ | ⟨g, cap, cur, hv, _⟩
    · omega
    · simp only [Value.slice.injEq] at hv
      exact ⟨g, hv.1⟩
  refine ⟨g, 0, rfl, fun k hk => ?_⟩
  rw [Nat.zero_add, ownsRow_cell h _ (by omega)]
  simp [ivs, hk]
theorem ivs_snoc (xs : List Int) (x : Int) : ivs (xs ++ [x]) = ivs xs ++ [.int .i64 x] := by simp [ivs]
/-- One more at the end of a row of one's own. -/
theorem wpList_append_int {w : World} {ops : Array Oper} {rest : List Oper} {o : Oper} {a : Act} {Q : Exit → Act → World → Prop} (hgd : o.guard = none) (s x : Operand)
    (ho : o.op = .call { callee := .builtin .append, args := #[s, x], argTypes := #[47, 47] }) (B : Nat) (av : Option Addr) (n cv : Nat) (L : List Int) (hn : L.length = n) (hs : a.eval s = .slice av n cv) (hown : OwnI w B av cv L)
    (ad : Addr) (y : Int) (hx : a.eval x = .slice (some ad) 1 1) (hnews : ∀ j u, [Value.int .i64 y][j]? = some u → w.cell? (ad.add j) = some u) (hle : n ≤ 100000) (hB : B ≤ w.heap.size)
    (h : ∀ a' c' w', Hid (OwnI w' B a' c' (L ++ [y])) → w.grownBy w' (Value.ownBlock (.slice av n cv)) → (Value.ownBlock (.slice a' (n + 1) c') = Value.ownBlock (.slice av n cv) ∨ Value.ownBlock (.slice a' (n + 1) c') = some w.heap.size) → wpList Try.prog ops Q rest (a.put o.dst (.slice a' (n + 1) c')) w') : wpList Try.prog ops Q (o :: rest) a w := by
  obtain ⟨i, hi, hz0, hz1, hz2⟩ := info_parts info3
  subst hn
  refine wpList_append_own_at w hgd s x 47 ho B 3 i _ 1 8 Try.underlying47 hi hz0 hz1 hz2 rfl (by decide) _ _ _ hs hown ad 1 1 [.int .i64 y] hx rfl hnews (by simp [Value.oneCell']) (by unfold maxLen; omega) (by omega) hB ?_
  intro v' w' h1 h2 _ h4
  have e : ∃ a' c', v' = .slice a' (L.length + 1) c' := by
    rcases h1.2 with ⟨hv, hn⟩ | ⟨g, cap, _, hv, _⟩
    · omega
    · exact ⟨_, _, hv⟩
  obtain ⟨a', c', rfl⟩ := e
  refine h a' c' w' ?_ h2 h4
  show OwnI _ _ _ _ _
  unfold OwnI
  rw [List.length_append, ivs_snoc]
  exact h1
theorem cell_one_int (W : World) (T : TypeId) (u : Value) : ∀ (j : Nat) (x : Value), [u][j]? = some x → (W.alloc (.cells #[u] T)).cell? (Addr.add ⟨W.heap.size, 0, none⟩ j) = some x := by
  intro j x h
  have e := cell_of_row (W.alloc (.cells #[u] T)) W.heap.size j _ T (0, 0) (heap_alloc_new W _)
  match j with
  | 0 => simpa [Addr.add] using e.trans h
  | j + 1 => simp at h
/-- Two rows of one's own that lie apart. -/
structure Two (w0 : World) (ah : Option Addr) (ch nh : Nat) (H : List Int) (ab : Option Addr) (cb nb : Nat) (B : List Int) (wr : World) : Prop where
  h : OwnI wr w0.heap.size ah ch H
  b : OwnI wr w0.heap.size ab cb B
  lh : H.length = nh
  lb : B.length = nb
  ne : ∀ g, Value.ownBlock (.slice ah nh ch) = some g → Value.ownBlock (.slice ab nb cb) ≠ some g
  bel : Below w0.heap.size w0 wr
theorem own_lt {w : World} {lo c n : Nat} {a : Option Addr} {xs : List Int} (h : OwnI w lo a c xs) (hn : xs.length = n) (g : Nat) (hg : Value.ownBlock (.slice a n c) = some g) : lo ≤ g ∧ g < w.heap.size := by
  subst hn
  rcases h.2 with ⟨h0, _⟩ | ⟨g', cap, cur, hv, hb, hh, _⟩
  · rw [h0] at hg
    simp [Value.ownBlock] at hg
  · rw [hv] at hg
    simp [Value.ownBlock] at hg
    subst hg
    exact ⟨hb, (Array.getElem?_eq_some_iff.1 hh).1⟩
theorem Two.on {w0 wr w' : World} {ah ab : Option Addr} {ch nh cb nb : Nat} {H B : List Int} (t : Two w0 ah ch nh H ab cb nb B wr) (hb : Below wr.heap.size wr w') : Two w0 ah ch nh H ab cb nb B w' :=
  ⟨ownsRow_on t.h hb, ownsRow_on t.b hb, t.lh, t.lb, t.ne, t.bel.trans (hb.mono t.bel.size)⟩
theorem Two.swap {w0 wr : World} {ah ab : Option Addr} {ch nh cb nb : Nat} {H B : List Int} (t : Two w0 ah ch nh H ab cb nb B wr) : Two w0 ab cb nb B ah ch nh H wr :=
  ⟨t.b, t.h, t.lb, t.lh, fun g h1 h2 => t.ne g h2 h1, t.bel⟩
theorem Two.add {w0 wr w' : World} {ah ab a' : Option Addr} {ch nh cb nb c' : Nat} {H B : List Int} {y : Int} (t : Two w0 ah ch nh H ab cb nb B wr) (h' : OwnI w' w0.heap.size a' c' (H ++ [y])) (hg : wr.grownBy w' (Value.ownBlock (.slice ah nh ch)))
    (hat : Value.ownBlock (.slice a' (nh + 1) c') = Value.ownBlock (.slice ah nh ch) ∨ Value.ownBlock (.slice a' (nh + 1) c') = some wr.heap.size) : Two w0 a' c' (nh + 1) (H ++ [y]) ab cb nb B w' := by
  refine ⟨h', ?_, by rw [List.length_append, t.lh]; rfl, t.lb, fun g h1 h2 => ?_, t.bel.grown hg t.bel.size (fun k hk => (own_lt t.h t.lh k hk).1)⟩
  · have hb := t.b
    unfold OwnI at hb ⊢
    rw [t.lb] at hb ⊢
    exact ownsRow_apart hb hg (fun g h1 h2 => t.ne g h2 h1)
  · rcases hat with e | e
    · rw [e] at h1
      exact t.ne g h1 h2
    · rw [e] at h1
      have := (own_lt t.b t.lb g h2).2
      simp at h1
      omega
end Go.Proofs.Ytajjaeaknonmfaa