/-
  Plain: how high the ground is, what land it is, a chunk's map; the ground of two columns side by side.
  Memory: rows of numbers; what is asked of a height's package, as a structure: the laws are walked over it. The document's Of and Band.
  The document's Map.
-/
import Derived.Test.YtbdjgaagafnfaaaNRocts
import Derived.Deep.MidRow
import Derived.Deep.OwnRows
import Derived.Deep.WholeRow
import Derived.Laws.AppendOwnNone
import Derived.Laws.OwnMore
import Derived.Deep.AppendLies
import Derived.Maps.AppendAt
import Derived.Lib.Walk
import Derived.StillTailTactics
set_option maxRecDepth 20000
namespace Go.Proofs.Ytbdjgaagafnfaaa
section
open N Go.RowKit

def hOf (S : Nat) (x z : Int) : Int := 20 + 72 * octN S 10 x z 6 4 / 65536
def bandOf (S : Nat) (x z : Int) : Int := if octN S 11 x z 7 2 < 16000 then 2 else if octN S 11 x z 7 2 < 25000 then 0 else if octN S 11 x z 7 2 < 36000 then 1 else 3
theorem hOf_bd (S : Nat) (x z : Int) : 20 ≤ hOf S x z ∧ hOf S x z ≤ 91 := by
  have := octN_bd S 10 x z 6 4
  unfold hOf
  omega
theorem bandOf_bd (S : Nat) (x z : Int) : 0 ≤ bandOf S x z ∧ bandOf S x z ≤ 3 := by
  unfold bandOf
  repeat' split
  all_goals omega
def mapH (S : Nat) (x z : Int) : List Int := (List.range 256).map fun (i : Nat) => hOf S (x * 16 + (i : Int) % 16) (z * 16 + (i : Int) / 16)
def mapB (S : Nat) (x z : Int) : List Int := (List.range 256).map fun (i : Nat) => bandOf S (x * 16 + (i : Int) % 16) (z * 16 + (i : Int) / 16)
theorem mapH_len (S : Nat) (x z : Int) : (mapH S x z).length = 256 := by simp [mapH]
theorem mapB_len (S : Nat) (x z : Int) : (mapB S x z).length = 256 := by simp [mapB]
theorem mapH_at (S : Nat) (x z : Int) (i : Nat) (h : i < (mapH S x z).length) : (mapH S x z)[i] = hOf S (x * 16 + (i : Int) % 16) (z * 16 + (i : Int) / 16) := by simp [mapH]
theorem mapB_at (S : Nat) (x z : Int) (i : Nat) (h : i < (mapB S x z).length) : (mapB S x z)[i] = bandOf S (x * 16 + (i : Int) % 16) (z * 16 + (i : Int) / 16) := by simp [mapB]
/-! ### side by side -/
theorem flat_near (S : Nat) (stage x z : Int) {shift d : Int} (h0 : 0 ≤ shift) (h1 : shift ≤ 20) (hd : wide shift * d = 65536) :
    (flatN S stage (x + 1) z shift - flatN S stage x z shift ≤ 98304 / wide shift + 6 ∧ flatN S stage x z shift - flatN S stage (x + 1) z shift ≤ 98304 / wide shift + 6) ∧
    flatN S stage x (z + 1) shift - flatN S stage x z shift ≤ 98304 / wide shift + 6 ∧ flatN S stage x z shift - flatN S stage x (z + 1) shift ≤ 98304 / wide shift + 6 := by
  have hP := wide_bd h0 h1
  rw [flatN_in S stage _ _ h0 h1, flatN_in S stage _ _ h0 h1, flatN_in S stage _ _ h0 h1]
  exact ⟨slope_x _ (plane_bd S stage) x z (by omega) (.inl hd), slope_z _ (plane_bd S stage) x z (by omega) (.inl hd)⟩
theorem oct4 (S : Nat) (x z : Int) : octN S 10 x z 6 4 = flatN S 10 x z 6 / 2 + flatN S 110 x z 5 / 4 + flatN S 210 x z 4 / 8 + flatN S 310 x z 3 / 16 := by
  rw [octN_in S 10 x z (by omega) (by omega) (by omega) (by omega)]
  show octs S 10 x z 6 4 = _
  simp only [octs]
  have e1 : wrap64 (10 + 100 * ((0 : Nat) : Int)) = 10 := by decide +kernel
  have e2 : wrap64 (10 + 100 * ((0 + 1 : Nat) : Int)) = 110 := by decide +kernel
  have e3 : wrap64 (10 + 100 * ((0 + 1 + 1 : Nat) : Int)) = 210 := by decide +kernel
  have e4 : wrap64 (10 + 100 * ((0 + 1 + 1 + 1 : Nat) : Int)) = 310 := by decide +kernel
  rw [e1, e2, e3, e4]
  have f1 : (6 : Int) - ((0 : Nat) : Int) = 6 := by decide
  have f2 : (6 : Int) - ((0 + 1 : Nat) : Int) = 5 := by decide
  have f3 : (6 : Int) - ((0 + 1 + 1 : Nat) : Int) = 4 := by decide
  have f4 : (6 : Int) - ((0 + 1 + 1 + 1 : Nat) : Int) = 3 := by decide
  rw [f1, f2, f3, f4]
  have g1 : (2 : Int) ^ (0 + 1) = 2 := by decide
  have g2 : (2 : Int) ^ (0 + 1 + 1) = 4 := by decide
  have g3 : (2 : Int) ^ (0 + 1 + 1 + 1) = 8 := by decide
  have g4 : (2 : Int) ^ (0 + 1 + 1 + 1 + 1) = 16 := by decide
  rw [g1, g2, g3, g4]
  omega
theorem w6 : wide 6 = 64 := by decide
theorem w5 : wide 5 = 32 := by decide
theorem w4 : wide 4 = 16 := by decide
theorem w3 : wide 3 = 8 := by decide
theorem hOf_near (S : Nat) (x z : Int) : (hOf S x z - hOf S (x + 1) z ≤ 5 ∧ hOf S (x + 1) z - hOf S x z ≤ 5) ∧ hOf S x z - hOf S x (z + 1) ≤ 5 ∧ hOf S x (z + 1) - hOf S x z ≤ 5 := by
  obtain ⟨⟨a1, a2⟩, a3, a4⟩ := flat_near S 10 x z (shift := 6) (d := 1024) (by omega) (by omega) (by decide)
  obtain ⟨⟨b1, b2⟩, b3, b4⟩ := flat_near S 110 x z (shift := 5) (d := 2048) (by omega) (by omega) (by decide)
  obtain ⟨⟨c1, c2⟩, c3, c4⟩ := flat_near S 210 x z (shift := 4) (d := 4096) (by omega) (by omega) (by decide)
  obtain ⟨⟨d1, d2⟩, d3, d4⟩ := flat_near S 310 x z (shift := 3) (d := 8192) (by omega) (by omega) (by decide)
  rw [w6] at a1 a2 a3 a4
  rw [w5] at b1 b2 b3 b4
  rw [w4] at c1 c2 c3 c4
  rw [w3] at d1 d2 d3 d4
  unfold hOf
  rw [oct4, oct4, oct4]
  generalize flatN S 10 x z 6 = A at *
  generalize flatN S 110 x z 5 = B at *
  generalize flatN S 210 x z 4 = C at *
  generalize flatN S 310 x z 3 = D at *
  generalize flatN S 10 (x + 1) z 6 = A1 at *
  generalize flatN S 110 (x + 1) z 5 = B1 at *
  generalize flatN S 210 (x + 1) z 4 = C1 at *
  generalize flatN S 310 (x + 1) z 3 = D1 at *
  generalize flatN S 10 x (z + 1) 6 = A2 at *
  generalize flatN S 110 x (z + 1) 5 = B2 at *
  generalize flatN S 210 x (z + 1) 4 = C2 at *
  generalize flatN S 310 x (z + 1) 3 = D2 at *
  have key : ∀ P Q : Int, P - Q ≤ 4000 → 20 + 72 * P / 65536 - (20 + 72 * Q / 65536) ≤ 5 := fun P Q h => by omega
  refine ⟨⟨key _ _ ?_, key _ _ ?_⟩, key _ _ ?_, key _ _ ?_⟩ <;> omega
theorem wake0 : hOf 1 0 0 = 62 := by decide +kernel
theorem wake1 : hOf 1 50 0 = 58 := by decide +kernel
end
section
open N Go.RowKit

def I64 (x : Int) : Prop := -9223372036854775808 ≤ x ∧ x ≤ 9223372036854775807
def Far (n : Int) (x : Int) : Prop := -n ≤ x ∧ x ≤ n
theorem cell_below {w w' : World} {b j : Nat} {v : Value} (hv : w.cell? ⟨b, j, none⟩ = some v) (hb : Below w.heap.size w w') : w'.cell? ⟨b, j, none⟩ = some v :=
  (hb.cell (p := ⟨b, j, none⟩) (World.block_lt_of_cell? w _ hv)).trans hv
/-- A row of numbers. -/
def ColsAt (w : World) (a : Option Addr) (xs : List Int) : Prop := ∃ b off, a = some ⟨b, off, none⟩ ∧ ∀ j (h : j < xs.length), w.cell? ⟨b, off + j, none⟩ = some (.int .i64 xs[j])
theorem ColsAt.on {w w' : World} {a : Option Addr} {xs : List Int} (h : ColsAt w a xs) (hb : Below w.heap.size w w') : ColsAt w' a xs := by
  obtain ⟨b, off, e, hc⟩ := h
  exact ⟨b, off, e, fun j hj => cell_below (hc j hj) hb⟩
/-! ### what is asked -/
/-! ### the document's -/
theorem rof_c (S : Nat) (x z : Int) (w : World) (hS : S < 18446744073709551616) (hx : I64 x) (hz : I64 z) :
    Calls Try.prog 49 #[.int .u64 S, .int .i64 x, .int .i64 z] w fun e w' => e = .returned (.int .i64 (hOf S x z)) ∧ Below w.heap.size w w' := by
  obtain ⟨Post, hPost⟩ : ∃ Post : Ending → World → Prop, Post = fun e w' => e = .returned (.int .i64 (hOf S x z)) ∧ Below w.heap.size w w' := ⟨_, rfl⟩
  rw [← hPost]
  have HP : Hid (∀ v w', v = hOf S x z → Below w.heap.size w w' → Post (.returned (.int .i64 v)) w') := fun v w' h1 h2 => by rw [hPost]; exact ⟨by rw [h1], h2⟩
  clear hPost
  go_enter Try.func49, Try.ntmps49
  go_wp2_with fail
  refine (roctaves_any S 10 x z 6 4 w hS (by omega) hx hz (by omega)).mono ?_
  rintro _ w1 ⟨rfl, hb1⟩
  have hO := octN_bd S 10 x z 6 4
  have R := HP.out (20 + 72 * octN S 10 x z 6 4 / 65536) w1 rfl hb1
  clear HP hb1
  generalize octN S 10 x z 6 4 = O at *
  have e1 : Int.tdiv (72 * O) 65536 = 72 * O / 65536 := Int.tdiv_eq_ediv_of_nonneg (by omega)
  go_wp2
  exact R
theorem rband_c (S : Nat) (x z : Int) (w : World) (hS : S < 18446744073709551616) (hx : I64 x) (hz : I64 z) :
    Calls Try.prog 50 #[.int .u64 S, .int .i64 x, .int .i64 z] w fun e w' => e = .returned (.int .i64 (bandOf S x z)) ∧ Below w.heap.size w w' := by
  obtain ⟨Post, hPost⟩ : ∃ Post : Ending → World → Prop, Post = fun e w' => e = .returned (.int .i64 (bandOf S x z)) ∧ Below w.heap.size w w' := ⟨_, rfl⟩
  rw [← hPost]
  have HP : Hid (∀ v w', v = bandOf S x z → Below w.heap.size w w' → Post (.returned (.int .i64 v)) w') := fun v w' h1 h2 => by rw [hPost]; exact ⟨by rw [h1], h2⟩
  clear hPost
  go_enter Try.func50, Try.ntmps50
  go_wp2_with fail
  refine (roctaves_any S 11 x z 7 2 w hS (by omega) hx hz (by omega)).mono ?_
  rintro _ w1 ⟨rfl, hb1⟩
  have R := fun v h => HP.out v w1 h hb1
  clear HP hb1
  unfold bandOf at R
  generalize octN S 11 x z 7 2 = O at *
  by_cases h1 : O < 16000
  · have R := R 2 (by rw [if_pos h1])
    go_wp2
  · by_cases h2 : O < 25000
    · have R := R 0 (by rw [if_neg h1, if_pos h2])
      go_wp2
    · by_cases h3 : O < 36000
      · have R := R 1 (by rw [if_neg h1, if_neg h2, if_pos h3])
        go_wp2
      · have R := R 3 (by rw [if_neg h1, if_neg h2, if_neg h3])
        go_wp2
/-! ### rows that one has made oneself -/
def ivs (xs : List Int) : List Value := xs.map (Value.int .i64)
def OwnI (w : World) (lo : Nat) (a : Option Addr) (c : Nat) (xs : List Int) : Prop := w.ownsRow lo 3 1 (.slice a xs.length c) xs.length (ivs xs)
theorem info3 : (Try.prog.info? 3).map (fun i => (i.zero, i.size, i.bytes)) = some (some (.int .i64 0), 1, 8) := by kernel_rfl
theorem ownsRow_cell {W : World} {b e size k cap : Nat} {g : Nat} {xs : List Value} (h : W.ownsRow b e size (.slice (some ⟨g, 0, none⟩) k cap) k xs) (j : Nat) (hj : j < k * size) : W.cell? ⟨g, j, none⟩ = xs[j]? := by
  rcases h.2 with ⟨h0, _⟩ | ⟨g', cap', cur, hv, _, hh, _, _, _, ht⟩
  · simp at h0
  · simp only [Value.slice.injEq, Option.some.injEq, Addr.mk.injEq, and_true, true_and] at hv
    obtain ⟨rfl, rfl⟩ := hv
    rw [cell_of_row W g j cur e (0, 0) hh, ← ht, List.getElem?_take, if_pos hj]
    simp
theorem ownsRow_on {W W' : World} {b e size k : Nat} {v : Value} {xs : List Value} (h : W.ownsRow b e size v k xs) (hB : Below W.heap.size W W') : W'.ownsRow b e size v k xs := by
  refine ⟨h.1, ?_⟩
  rcases h.2 with h0 | ⟨g, cap, cur, hv, hb, hh, hr⟩
  · exact .inl h0
  · exact .inr ⟨g, cap, cur, hv, hb, (hB.block g (Array.getElem?_eq_some_iff.1 hh).1).trans hh, hr⟩
theorem ownsRow_apart {W W' : World} {b e size k : Nat} {v : Value} {xs : List Value} {r : Option Nat} (h : W.ownsRow b e size v k xs) (hg : W.grownBy W' r) (hne : ∀ g, v.ownBlock = some g → r ≠ some g) : W'.ownsRow b e size v k xs := by
  refine ⟨h.1, ?_⟩
  rcases h.2 with h0 | ⟨g, cap, cur, hv, hb, hh, hr⟩
  · exact .inl h0
  · refine .inr ⟨g, cap, cur, hv, hb, (hg.block g (Array.getElem?_eq_some_iff.1 hh).1 (fun e' => ?_)).trans hh, hr⟩
    subst hv
    exact hne g rfl e'.symm
theorem OwnI.cols {w : World} {lo c : Nat} {a : Option Addr} {xs : List Int} (h : OwnI w lo a c xs) (h0 : 0 < xs.length) : ColsAt w a xs := by
  unfold OwnI at h
  obtain ⟨g, rfl⟩ : ∃ g, a = some ⟨g, 0, none⟩ := by
    rcases h.2 with ⟨_, h1⟩ | ⟨g, cap, cur, hv, _⟩
    · omega
    · simp only [Value.slice.injEq] at hv
      exact ⟨g, hv.1⟩
  refine ⟨g, 0, rfl, fun k hk => ?_⟩
  rw [Nat.zero_add, ownsRow_cell h _ (by omega)]
  simp [ivs, hk]
theorem ivs_snoc (xs : List Int) (x : Int) : ivs (xs ++ [x]) = ivs xs ++ [.int .i64 x] := by simp [ivs]
/-- One more at the end of a row of one's own. -/
theorem wpList_append_int {w : World} {ops : Array Oper} {rest : List Oper} {o : Oper} {a : Act} {Q : Exit → Act → World → Prop} (hgd : o.guard = none) (s x : Operand)
    (ho : o.op = .call { callee := .builtin .append, args := #[s, x], argTypes := #[24, 24] }) (B : Nat) (av : Option Addr) (n cv : Nat) (L : List Int) (hn : L.length = n) (hs : a.eval s = .slice av n cv) (hown : OwnI w B av cv L)
    (ad : Addr) (y : Int) (hx : a.eval x = .slice (some ad) 1 1) (hnews : ∀ j u, [Value.int .i64 y][j]? = some u → w.cell? (ad.add j) = some u) (hle : n ≤ 100000) (hB : B ≤ w.heap.size)
    (h : ∀ a' c' w', Hid (OwnI w' B a' c' (L ++ [y])) → w.grownBy w' (Value.ownBlock (.slice av n cv)) → (Value.ownBlock (.slice a' (n + 1) c') = Value.ownBlock (.slice av n cv) ∨ Value.ownBlock (.slice a' (n + 1) c') = some w.heap.size) → wpList Try.prog ops Q rest (a.put o.dst (.slice a' (n + 1) c')) w') : wpList Try.prog ops Q (o :: rest) a w := by
  obtain ⟨i, hi, hz0, hz1, hz2⟩ := info_parts info3
  subst hn
  refine wpList_append_own_at w hgd s x 24 ho B 3 i _ 1 8 Try.underlying24 hi hz0 hz1 hz2 rfl (by decide) _ _ _ hs hown ad 1 1 [.int .i64 y] hx rfl hnews (by simp [Value.oneCell']) (by unfold maxLen; omega) (by omega) hB ?_
  intro v' w' h1 h2 _ h4
  have e : ∃ a' c', v' = .slice a' (L.length + 1) c' := by
    rcases h1.2 with ⟨hv, hn⟩ | ⟨g, cap, _, hv, _⟩
    · omega
    · exact ⟨_, _, hv⟩
  obtain ⟨a', c', rfl⟩ := e
  refine h a' c' w' ?_ h2 h4
  show OwnI _ _ _ _ _
  unfold OwnI
  rw [List.length_append, ivs_snoc]
  exact h1
theorem cell_one_int (W : World) (T : TypeId) (u : Value) : ∀ (j : Nat) (x : Value), [u][j]? = some x → (W.alloc (.cells #[u] T)).cell? (Addr.add ⟨W.heap.size, 0, none⟩ j) = some x := by
  intro j x h
  have e := cell_of_row (W.alloc (.cells #[u] T)) W.heap.size j _ T (0, 0) (heap_alloc_new W _)
  match j with
  | 0 => simpa [Addr.add] using e.trans h
  | j + 1 => simp at h
/-- Two rows of one's own that lie apart. -/
structure Two (w0 : World) (ah : Option Addr) (ch nh : Nat) (H : List Int) (ab : Option Addr) (cb nb : Nat) (B : List Int) (wr : World) : Prop where
  h : OwnI wr w0.heap.size ah ch H
  b : OwnI wr w0.heap.size ab cb B
  lh : H.length = nh
  lb : B.length = nb
  ne : ∀ g, Value.ownBlock (.slice ah nh ch) = some g → Value.ownBlock (.slice ab nb cb) ≠ some g
  bel : Below w0.heap.size w0 wr
theorem own_lt {w : World} {lo c n : Nat} {a : Option Addr} {xs : List Int} (h : OwnI w lo a c xs) (hn : xs.length = n) (g : Nat) (hg : Value.ownBlock (.slice a n c) = some g) : lo ≤ g ∧ g < w.heap.size := by
  subst hn
  rcases h.2 with ⟨h0, _⟩ | ⟨g', cap, cur, hv, hb, hh, _⟩
  · rw [h0] at hg
    simp [Value.ownBlock] at hg
  · rw [hv] at hg
    simp [Value.ownBlock] at hg
    subst hg
    exact ⟨hb, (Array.getElem?_eq_some_iff.1 hh).1⟩
theorem Two.on {w0 wr w' : World} {ah ab : Option Addr} {ch nh cb nb : Nat} {H B : List Int} (t : Two w0 ah ch nh H ab cb nb B wr) (hb : Below wr.heap.size wr w') : Two w0 ah ch nh H ab cb nb B w' :=
  ⟨ownsRow_on t.h hb, ownsRow_on t.b hb, t.lh, t.lb, t.ne, t.bel.trans (hb.mono t.bel.size)⟩
theorem Two.swap {w0 wr : World} {ah ab : Option Addr} {ch nh cb nb : Nat} {H B : List Int} (t : Two w0 ah ch nh H ab cb nb B wr) : Two w0 ab cb nb B ah ch nh H wr :=
  ⟨t.b, t.h, t.lb, t.lh, fun g h1 h2 => t.ne g h2 h1, t.bel⟩
theorem Two.add {w0 wr w' : World} {ah ab a' : Option Addr} {ch nh cb nb c' : Nat} {H B : List Int} {y : Int} (t : Two w0 ah ch nh H ab cb nb B wr) (h' : OwnI w' w0.heap.size a' c' (H ++ [y])) (hg : wr.grownBy w' (Value.ownBlock (.slice ah nh ch)))
    (hat : Value.ownBlock (.slice a' (nh + 1) c') = Value.ownBlock (.slice ah nh ch) ∨ Value.ownBlock (.slice a' (nh + 1) c') = some wr.heap.size) : Two w0 a' c' (nh + 1) (H ++ [y]) ab cb nb B w' := by
  refine ⟨h', ?_, by rw [List.length_append, t.lh]; rfl, t.lb, fun g h1 h2 => ?_, t.bel.grown hg t.bel.size (fun k hk => (own_lt t.h t.lh k hk).1)⟩
  · have hb := t.b
    unfold OwnI at hb ⊢
    rw [t.lb] at hb ⊢
    exact ownsRow_apart hb hg (fun g h1 h2 => t.ne g h2 h1)
  · rcases hat with e | e
    · rw [e] at h1
      exact t.ne g h1 h2
    · rw [e] at h1
      have := (own_lt t.b t.lb g h2).2
      simp at h1
      omega
end
section
open N Go.RowKit

theorem mapH_take (S : Nat) (x z : Int) (i : Nat) (h : i < 256) : (mapH S x z).take (i + 1) = (mapH S x z).take i ++ [hOf S (x * 16 + (i : Int) % 16) (z * 16 + (i : Int) / 16)] := by
  rw [List.take_succ_eq_append_getElem (by rw [mapH_len]; exact h), mapH_at]
theorem mapB_take (S : Nat) (x z : Int) (i : Nat) (h : i < 256) : (mapB S x z).take (i + 1) = (mapB S x z).take i ++ [bandOf S (x * 16 + (i : Int) % 16) (z * 16 + (i : Int) / 16)] := by
  rw [List.take_succ_eq_append_getElem (by rw [mapB_len]; exact h), mapB_at]
set_option maxHeartbeats 1000000 in
theorem rmap_c (S : Nat) (x z : Int) (w : World) (hS : S < 18446744073709551616) (hx : Far 1073741825 x) (hz : Far 1073741825 z) :
    Calls Try.prog 27 #[.int .u64 S, .agg #[.int .i64 x, .int .i64 z]] w fun e w' => Below w.heap.size w w' ∧ ∃ a c a' c', e = .returned (.tuple #[.slice a 256 c, .slice a' 256 c']) ∧ ColsAt w' a (mapH S x z) ∧ ColsAt w' a' (mapB S x z) := by
  obtain ⟨Post, hPost⟩ : ∃ Post : Ending → World → Prop, Post = fun e w' => Below w.heap.size w w' ∧ ∃ a c a' c', e = .returned (.tuple #[.slice a 256 c, .slice a' 256 c']) ∧ ColsAt w' a (mapH S x z) ∧ ColsAt w' a' (mapB S x z) := ⟨_, rfl⟩
  rw [← hPost]
  have HP : Hid (∀ a c a' c' w', Below w.heap.size w w' → ColsAt w' a (mapH S x z) → ColsAt w' a' (mapB S x z) → Post (.returned (.tuple #[.slice a 256 c, .slice a' 256 c'])) w') := fun a c a' c' w' h1 h2 h3 => by rw [hPost]; exact ⟨h1, a, c, a', c', rfl, h2, h3⟩
  clear hPost
  obtain ⟨hx1, hx2⟩ := hx
  obtain ⟨hz1, hz2⟩ := hz
  have Hb0 : Hid (Below w.heap.size w (w.alloc (.cells #[.int .i64 x, .int .i64 z] 31))) := (Below.refl _ _).alloc (Nat.le_refl _) _
  have HX0 : Hid ((w.alloc (.cells #[.int .i64 x, .int .i64 z] 31)).heap[w.heap.size]? = some (.cells #[.int .i64 x, .int .i64 z] 31 (0, 0))) := heap_alloc_new w (.cells #[.int .i64 x, .int .i64 z] 31)
  have hsz : (w.alloc (.cells #[.int .i64 x, .int .i64 z] 31)).heap.size = w.heap.size + 1 := by simp
  have Hlh : Hid ((mapH S x z).length = 256) := mapH_len S x z
  have Hlb : Hid ((mapB S x z).length = 256) := mapB_len S x z
  have Hth : Hid (∀ i, i < 256 → (mapH S x z).take (i + 1) = (mapH S x z).take i ++ [hOf S (x * 16 + (i : Int) % 16) (z * 16 + (i : Int) / 16)]) := fun i h => mapH_take S x z i h
  have Htb : Hid (∀ i, i < 256 → (mapB S x z).take (i + 1) = (mapB S x z).take i ++ [bandOf S (x * 16 + (i : Int) % 16) (z * 16 + (i : Int) / 16)]) := fun i h => mapB_take S x z i h
  generalize mapH S x z = HL at *
  generalize mapB S x z = BL at *
  go_enter Try.func27, Try.ntmps27
  go_wp2_with fail
  generalize w.alloc (.cells #[.int .i64 x, .int .i64 z] 31) = w0 at *
  go_loopw [6, 7, 8] (fun vh vb vi wr => ∃ (i : Nat) (ah : Option Addr) (ch : Nat) (ab : Option Addr) (cb : Nat), i ≤ 256 ∧ vi = .int .i64 (i : Int) ∧ vh = .slice ah i ch ∧ vb = .slice ab i cb ∧ Hid (Two w0 ah ch i (HL.take i) ab cb i (BL.take i) wr)) (fun _ _ vi _ => 256 - (intOf vi).toNat)
  case atStart => exact ⟨0, none, 0, none, 0, by omega, by go_num, rfl, rfl, ⟨World.ownsRow_nil _ _ _ _, World.ownsRow_nil _ _ _ _, rfl, rfl, fun g hg => by simp [Value.ownBlock] at hg, Below.refl _ _⟩⟩
  case round =>
    obtain ⟨i, ah, ch, ab, cb, hi, rfl, rfl, rfl, HT⟩ := hrel
    by_cases hlt : i < 256
    · have hlt' : (i : Int) < 256 := by omega
      have hX := (HT.out.bel.block w.heap.size (by omega)).trans HX0.out
      have y0 : wr.cell? ⟨w.heap.size, 0, none⟩ = some (.int .i64 x) := (cell_of_row wr _ 0 _ 31 (0, 0) hX).trans rfl
      have y1 : wr.cell? ⟨w.heap.size, 1, none⟩ = some (.int .i64 z) := (cell_of_row wr _ 1 _ 31 (0, 0) hX).trans rfl
      have eh := Hth.out i hlt
      have eb := Htb.out i hlt
      clear hX HP
      have hXi : I64 (x * 16 + (i : Int) % 16) := ⟨by omega, by omega⟩
      have hZi : I64 (z * 16 + (i : Int) / 16) := ⟨by omega, by omega⟩
      have HXi : Hid (I64 (x * 16 + (i : Int) % 16)) := hXi
      have HZi : Hid (I64 (z * 16 + (i : Int) / 16)) := hZi
      clear hXi hZi
      go_wp2_with fail
      clear y0 y1
      generalize x * 16 + (i : Int) % 16 = X at *
      generalize z * 16 + (i : Int) / 16 = Z at *
      refine (rof_c S X Z wr hS HXi.out HZi.out).mono ?_
      rintro _ w1 ⟨rfl, hb1⟩
      have HT1 : Hid (Two w0 ah ch i (HL.take i) ab cb i (BL.take i) (w1.alloc (.cells #[.int .i64 (hOf S X Z)] 3))) := (HT.out.on hb1).on ((Below.refl _ _).alloc (Nat.le_refl _) _)
      clear hb1 HT
      generalize hOf S X Z = hv at *
      obtain ⟨H0, hH0⟩ : ∃ H0, H0 = HL.take i := ⟨_, rfl⟩
      obtain ⟨B0, hB0⟩ : ∃ B0, B0 = BL.take i := ⟨_, rfl⟩
      rw [← hH0] at eh HT1
      rw [← hB0] at eb HT1
      clear hH0 hB0
      have Heh : Hid (HL.take (i + 1) = H0 ++ [hv]) := eh
      have Heb : Hid (BL.take (i + 1) = B0 ++ [bandOf S X Z]) := eb
      clear eh eb
      go_wp2_with (at_builtin; refine wpList_append_int rfl _ _ rfl w0.heap.size ah i ch H0 HT1.out.lh rfl HT1.out.h ⟨w1.heap.size, 0, none⟩ hv rfl (cell_one_int _ _ _) (by omega) HT1.out.bel.size ?_; intro a3 c3 w3 HO3 hg3 hat3)
      have HT3 : Hid (Two w0 a3 c3 (i + 1) (H0 ++ [hv]) ab cb i B0 w3) := HT1.out.add HO3.out hg3 hat3
      clear HO3 hg3 hat3 HT1
      go_wp2_with fail
      refine (rband_c S X Z w3 hS HXi.out HZi.out).mono ?_
      rintro _ w4 ⟨rfl, hb4⟩
      have HT4 : Hid (Two w0 a3 c3 (i + 1) (H0 ++ [hv]) ab cb i B0 (w4.alloc (.cells #[.int .i64 (bandOf S X Z)] 3))) := (HT3.out.on hb4).on ((Below.refl _ _).alloc (Nat.le_refl _) _)
      clear hb4 HT3
      generalize bandOf S X Z = bv at *
      go_wp2_with (at_builtin; refine wpList_append_int rfl _ _ rfl w0.heap.size ab i cb B0 HT4.out.lb rfl HT4.out.b ⟨w4.heap.size, 0, none⟩ bv rfl (cell_one_int _ _ _) (by omega) HT4.out.bel.size ?_; intro a5 c5 w5 HO5 hg5 hat5)
      have HT5 : Hid (Two w0 a3 c3 (i + 1) (HL.take (i + 1)) a5 c5 (i + 1) (BL.take (i + 1)) w5) := by rw [Heh.out, Heb.out]; exact (HT4.out.swap.add HO5.out hg5 hat5).swap
      clear HO5 hg5 hat5 HT4
      go_wp2
      go_roundw
      case rel => first | exact ⟨i + 1, a3, c3, a5, c5, by omega, by go_num, rfl, rfl, HT5⟩ | (trace_state; fail)
      case measure => simp [intOf]; omega
    · obtain rfl : i = 256 := by omega
      have eh : HL.take 256 = HL := List.take_of_length_le (by rw [Hlh.out]; exact Nat.le_refl _)
      have eb : BL.take 256 = BL := List.take_of_length_le (by rw [Hlb.out]; exact Nat.le_refl _)
      have hT := HT.out
      rw [eh, eb] at hT
      have R := HP.out ah ch ab cb wr (Hb0.out.trans (hT.bel.mono Hb0.out.size)) (hT.h.cols (by rw [Hlh.out]; omega)) (hT.b.cols (by rw [Hlb.out]; omega))
      clear HP HT hT eh eb
      go_wp2
      exact R
end
end Go.Proofs.Ytbdjgaagafnfaaa
