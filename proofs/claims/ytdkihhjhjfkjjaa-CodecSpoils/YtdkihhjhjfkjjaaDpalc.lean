/-
  The program's reader: a palette.
-/
import Derived.Test.YtdkihhjhjfkjjaaDkind
import Derived.Test.YtdkihhjhjfkjjaaRdec
import Derived.Deep.WholeRow
namespace Go.Proofs.Ytdkihhjhjfkjjaa
open Go.RowKit

theorem only_setRow (w : World) (g : Nat) (cs : Array Value) : Only g w (w.setRow g cs) :=
  ⟨rfl, rfl, rfl, by simp [World.setRow], fun k hk => by
    simp only [World.setRow, Array.getElem?_modify]
    rw [if_neg (by omega)]⟩
theorem Only.trans {g : Nat} {a b c : World} (h : Only g a b) (k : Only g b c) : Only g a c :=
  ⟨k.os.trans h.os, k.tape.trans h.tape, k.output.trans h.output, k.size.trans h.size, fun j hj => (k.block j hj).trans (h.block j hj)⟩
/-- A block that holds a palette (as it grows): these kinds, and that number. -/
structure PalAt (w : World) (g : Nat) (l : List Int) (K : Nat) (X : Array Value) : Prop where
  heap : w.heap[g]? = some (.cells X 48 (0, 0))
  size : X.size = 18
  many : X[17]? = some (.int .i64 (K : Int))
  kinds : ∀ j, j < 17 → X[j]? = some (.int .u8 (l.getD j 0))
  one : X.all (·.oneCell') = true
theorem PalAt.is {w : World} {g K : Nat} {l : List Int} {X : Array Value} (h : PalAt w g l K X) (hk : l.length = K) : IsPal X l := ⟨h.size, by rw [h.many, hk], h.kinds⟩
theorem PalAt.free {w : World} {g K : Nat} {l : List Int} {X : Array Value} (h : PalAt w g l K X) (k : Nat) : w.frozen? ⟨g, k, none⟩ = false := frozen_of_row w g k _ 48 h.heap
theorem PalAt.lt {w : World} {g K : Nat} {l : List Int} {X : Array Value} (h : PalAt w g l K X) : g < w.heap.size := (Array.getElem?_eq_some_iff.1 h.heap).1
theorem PalAt.cell {w : World} {g K : Nat} {l : List Int} {X : Array Value} (h : PalAt w g l K X) {j : Nat} (hj : j < 17) : w.cell? ⟨g, j, none⟩ = some (.int .u8 (l.getD j 0)) := by
  rw [cell_of_row w g j _ 48 (0, 0) h.heap]; exact h.kinds j hj
theorem PalAt.num {w : World} {g K : Nat} {l : List Int} {X : Array Value} (h : PalAt w g l K X) : w.cell? ⟨g, 17, none⟩ = some (.int .i64 (K : Int)) := by
  rw [cell_of_row w g 17 _ 48 (0, 0) h.heap]; exact h.many
theorem PalAt.same {w w' : World} {g K : Nat} {l : List Int} {X : Array Value} (h : PalAt w g l K X) (e : w'.heap[g]? = w.heap[g]?) : PalAt w' g l K X := ⟨e.trans h.heap, h.size, h.many, h.kinds, h.one⟩
theorem PalAt.set {w : World} {g K : Nat} {l l' : List Int} {X : Array Value} (h : PalAt w g l K X) {J : Nat} {x : Int} (hJ : J < 17) (hl : ∀ j, j < 17 → l'.getD j 0 = if j = J then x else l.getD j 0) :
    PalAt (w.setCell ⟨g, J, none⟩ (.int .u8 x)) g l' K (X.setIfInBounds J (.int .u8 x)) := by
  have hs := h.size
  refine ⟨by rw [heap_setCell_same w g J _ 48 _ h.heap], by rw [Array.size_setIfInBounds, hs], ?_, fun j hj => ?_, ?_⟩
  · rw [Array.getElem?_setIfInBounds, if_neg (by omega)]; exact h.many
  · rw [Array.getElem?_setIfInBounds, hl j hj]
    by_cases e : J = j
    · subst e; rw [if_pos rfl, if_pos (by omega), if_pos rfl]
    · rw [if_neg e, if_neg (by omega)]; exact h.kinds j hj
  · rw [Array.all_eq_true_iff_forall_mem]
    intro v hv
    rcases Array.mem_or_eq_of_mem_setIfInBounds hv with hv | hv
    · exact (Array.all_eq_true_iff_forall_mem.1 h.one) v hv
    · subst hv; rfl

/-- A palette's value into its own block, and out of it. -/
theorem wpList_store_pal {ops : Array Oper} {rest : List Oper} {o : Oper} {a : Act} {w : World} {Q : Exit → Act → World → Prop} (hgd : o.guard = none) (x y : Operand) (ho : o.op = .store 48 x y)
    (g : Nat) (X : Array Value) (hx : a.eval x = .pointer (some ⟨g, 0, none⟩)) (hy : a.eval y = .agg X) (old : Array Value) (hg : w.heap[g]? = some (.cells old 48 (0, 0))) (hold : old.size = 18) (hs : X.size = 18) (h1 : X.all (·.oneCell') = true)
    (h : ∀ w', Only g w w' → w'.heap[g]? = some (.cells X 48 (0, 0)) → wpList Try.prog ops Q rest (a.put o.dst undef) w') : wpList Try.prog ops Q (o :: rest) a w :=
  wpList_store_row hgd 48 x y ho g X hx hy 48 old hg (by rw [hs]; kernel_rfl) (by rw [hold, hs]) h1 (h _ (only_setRow w g X) (setRow_heap w g old X 48 (0, 0) hg))
theorem wpList_load_pal {ops : Array Oper} {rest : List Oper} {o : Oper} {a : Act} {w : World} {Q : Exit → Act → World → Prop} (hgd : o.guard = none) (x : Operand) (ho : o.op = .load 48 x)
    (g : Nat) (X : Array Value) (hx : a.eval x = .pointer (some ⟨g, 0, none⟩)) (hg : w.heap[g]? = some (.cells X 48 (0, 0))) (hs : X.size = 18)
    (h : wpList Try.prog ops Q rest (a.put o.dst (.agg X)) w) : wpList Try.prog ops Q (o :: rest) a w := by
  refine wpList_load_mid hgd 48 x ho g 0 hx X.toList _ (fun j v hv => ?_) Try.underlying48 rfl (by rw [Array.length_toList, hs]; kernel_rfl) ?_
  · rw [Nat.zero_add, cell_of_row w g j _ 48 (0, 0) hg]; simpa using hv
  · rw [Array.toArray_toList]; exact h

/-- The kinds of a palette when there are none yet. -/
def palZ (K : Int) : Array Value := #[.int .u8 0, .int .u8 0, .int .u8 0, .int .u8 0, .int .u8 0, .int .u8 0, .int .u8 0, .int .u8 0, .int .u8 0, .int .u8 0, .int .u8 0, .int .u8 0, .int .u8 0, .int .u8 0, .int .u8 0, .int .u8 0, .int .u8 0, .int .i64 K]
theorem PalAt.zero {w : World} {g K : Nat} (h : w.heap[g]? = some (.cells (palZ K) 48 (0, 0))) : PalAt w g [] K (palZ K) := by
  refine ⟨h, rfl, rfl, fun j hj => ?_, by simp [palZ, Value.oneCell']⟩
  have : ∀ j : Fin 17, (palZ K)[j.val]? = some (.int .u8 0) := by
    intro j
    rcases j with ⟨j, hj⟩
    rcases j with _ | _ | _ | _ | _ | _ | _ | _ | _ | _ | _ | _ | _ | _ | _ | _ | _ | j
    all_goals first | rfl | omega
  exact this ⟨j, hj⟩

theorem heap_new_two (w : World) (o1 o2 : Obj) : ((w.alloc o1).alloc o2).heap[w.heap.size + 1]? = some o2 := by
  have := heap_alloc_new (w.alloc o1) o2
  rwa [World.size_alloc] at this
theorem heap_new_one (w : World) (o1 o2 : Obj) : ((w.alloc o1).alloc o2).heap[w.heap.size]? = some o1 := by
  have h := (Below.refl (w.heap.size + 1) (w.alloc o1)).alloc (by rw [World.size_alloc]; exact Nat.le_refl _) o2
  rw [h.block w.heap.size (by omega)]
  exact heap_alloc_new w o1
theorem Bytes.under {w w' : World} {b off n q : Nat} {xs : List Int} (h : Bytes w (some ⟨b, off, none⟩) n xs) (hb : Below q w w') (hq : b < q) : Bytes w' (some ⟨b, off, none⟩) n xs := by
  refine ⟨h.n, ?_, h.fit⟩
  rcases h.cells with e | ⟨b', o', e, hc⟩
  · exact Or.inl e
  · cases e
    refine Or.inr ⟨_, _, rfl, fun k hk => ?_⟩
    have := hc k hk
    unfold World.cell? at this ⊢
    rw [hb.block b hq]
    exact this
/-- The bytes that a reader has not read yet. -/
def Lefts (w : World) (q b : Nat) (bs : List Int) : Prop := ∃ off n c, Rdr w q (some ⟨b, off, none⟩) n c ∧ Bytes w (some ⟨b, off, none⟩) n bs ∧ n ≤ c ∧ b < q ∧ n ≤ 1000000
theorem Lefts.moved {w w' : World} {q b off n c m o' : Nat} {bs : List Int} (hB : Bytes w (some ⟨b, off, none⟩) n bs) (hb : b < q) (hn : n ≤ c) (h6 : n ≤ 1000000) (hw : Below q w w') (hm : m ≤ n) (ho : m = c ∨ o' = off + m) (hR : Rdr w' q (some ⟨b, o', none⟩) (n - m) (c - m)) :
    Lefts w' q b (bs.drop m) := ⟨o', n - m, c - m, hR, (hB.under hw hb).from hm hn ho, by omega, hb, by omega⟩
theorem Lefts.below {w w' : World} {q b m : Nat} {bs : List Int} (h : Lefts w q b bs) (hb : Below m w w') (hm : q < m) : Lefts w' q b bs := by
  obtain ⟨off, n, c, h1, h2, h3, h4, h5⟩ := h
  exact ⟨off, n, c, h1.below hb hm, h2.under hb (by omega), h3, h4, h5⟩
theorem Lefts.only {w w' : World} {q b g : Nat} {bs : List Int} (h : Lefts w q b bs) (hb : Only g w w') (hm : q < g) : Lefts w' q b bs := h.below (hb.below (Nat.le_refl _)) hm
theorem Lefts.lt {w : World} {q b : Nat} {bs : List Int} (h : Lefts w q b bs) : q < w.heap.size := by
  obtain ⟨off, n, c, h1, _⟩ := h
  exact h1.lt

/-- Two new blocks, the second one written. -/
theorem two_new {w w1 : World} {o1 o2 : Obj} (h : Only (w.heap.size + 1) ((w.alloc o1).alloc o2) w1) : Below w.heap.size w w1 ∧ w1.heap[w.heap.size]? = some o1 := by
  have h1 : Below w.heap.size w ((w.alloc o1).alloc o2) := ((Below.refl _ _).alloc (Nat.le_refl _) o1).alloc (by rw [World.size_alloc]; omega) o2
  exact ⟨h1.trans (h.below (Nat.le_succ _)), (h.block _ (by omega)).trans (heap_new_one w o1 o2)⟩

set_option maxHeartbeats 1000000 in
theorem rpal_short (q : Nat) (a : Option Addr) (n c K : Nat) (w : World) (hR : Rdr w q a n c) (h : n < K) : Calls Try.prog 43 #[.pointer (some ⟨q, 0, none⟩), .int .i64 (K : Int)] w fun e w' => e = gives 3 ∧ Below q w w' := by
  have hq := hR.lt
  go_enter Try.func43, Try.ntmps43
  go_wp2_with (refine wpList_store_pal rfl (.tmp 5) (.tmp 10) rfl (w.heap.size + 1) (palZ K) rfl rfl (palZ 0) (heap_new_two w _ _) rfl rfl (by simp [palZ, Value.oneCell']) ?_; intro w1 hO1 hp1; obtain ⟨hb1, _⟩ := two_new hO1; clear hO1 hp1)
  refine (take_no q a n c K w1 (hR.below hb1 hq) h).mono ?_
  rintro _ _ ⟨rfl, rfl⟩
  have R := hb1.mono (Nat.le_of_lt hq)
  clear hb1 hR
  go_wp2
  exact ⟨rfl, rfl, R⟩

/-- The kind ahead of place J; -1 ahead of the first. -/
def lastOf (l : List Int) (J : Nat) : Int := if J = 0 then -1 else l.getD (J - 1) 0
theorem okTo_more {l : List Int} {J : Nat} {x : Int} (h : okTo l J) (hx : l.getD J 0 = x) (h1 : lastOf l J < x) (h2 : x < 17) : okTo l (J + 1) := fun i hi => by
  by_cases e : i = J
  · subst e
    refine ⟨by omega, fun h0 => ?_⟩
    unfold lastOf at h1
    rw [if_neg (by omega)] at h1
    rw [hx]; exact h1
  · exact h i (by omega)
theorem okTo_stop {l : List Int} {J : Nat} {x : Int} (hJ : J < l.length) (hx : l.getD J 0 = x) (h0 : 0 ≤ x) (h : ¬ (lastOf l J < x ∧ x < 17)) : okPal l = false := by
  refine okTo_not hJ fun ⟨h1, h2⟩ => h ⟨?_, by omega⟩
  unfold lastOf
  by_cases e : J = 0
  · rw [if_pos e]; omega
  · rw [if_neg e, ← hx]; exact h2 (by omega)
theorem take_getD (l : List Int) (J j : Nat) (hJ : J < l.length) : (l.take (J + 1)).getD j 0 = if j = J then l.getD J 0 else (l.take J).getD j 0 := by
  simp only [List.getD_eq_getElem?_getD, List.getElem?_take]
  by_cases e : j = J
  · subst e; simp
  · rw [if_neg e]
    by_cases h : j < J
    · rw [if_pos h, if_pos (by omega)]
    · rw [if_neg h, if_neg (by omega)]

set_option maxHeartbeats 1000000 in
theorem rpal_c (q b K : Nat) (bs : List Int) (w : World) (hL : Lefts w q b bs) (hK1 : 1 ≤ K) (hK : K ≤ 17) (hKl : K ≤ bs.length) :
    Calls Try.prog 43 #[.pointer (some ⟨q, 0, none⟩), .int .i64 (K : Int)] w fun e w' => Below q w w' ∧ ((okPal (bs.take K) = false ∧ e = gives 4) ∨
      (okPal (bs.take K) = true ∧ ∃ X, e = .returned (.agg X) ∧ IsPal X (bs.take K) ∧ Lefts w' q b (bs.drop K))) := by
  obtain ⟨off, n, c, hR, hB, hn, hbq, hn6⟩ := hL
  have hKn : K ≤ n := by have := hB.n; omega
  have Hmv : Hid (∀ w' o', Below q w w' → (K = c ∨ o' = off + K) → Rdr w' q (some ⟨b, o', none⟩) (n - K) (c - K) → Lefts w' q b (bs.drop K)) := fun w' o' h1 h2 h3 => Lefts.moved hB hbq hn hn6 h1 hKn h2 h3
  clear hKl hn6
  have hq := hR.lt
  have HB : Hid (Bytes w (some ⟨b, off, none⟩) n bs) := hB
  have HL : Hid ((bs.take K).length = K) := by show _ = _; rw [List.length_take, hB.n]; omega
  clear hB
  obtain ⟨n2, hn2⟩ : ∃ n2, n2 = n - K := ⟨_, rfl⟩
  obtain ⟨c2, hc2⟩ : ∃ c2, c2 = c - K := ⟨_, rfl⟩
  rw [← hn2, ← hc2] at Hmv
  have htk := fun w1 h => take_yes q b off n c K w1 h hK1 hKn hn
  rw [← hn2, ← hc2] at htk
  have Htk : Hid _ := htk
  clear htk hn2 hc2
  go_enter Try.func43, Try.ntmps43
  go_wp2_with (refine wpList_store_pal rfl (.tmp 5) (.tmp 10) rfl (w.heap.size + 1) (palZ K) rfl rfl (palZ 0) (heap_new_two w _ _) rfl rfl (by simp [palZ, Value.oneCell']) ?_; intro w1 hO1 hp1; obtain ⟨hb1, hr1⟩ := two_new hO1; clear hO1)
  refine (Htk.out w1 (hR.below hb1 hq)).mono ?_
  rintro _ w2 ⟨rfl, o2, ho2, hR2, hO2⟩
  have Hb2 : Hid (Below q w w2) := (hb1.mono (Nat.le_of_lt hq)).trans (hO2.below (Nat.le_refl _))
  have Hs2 : Hid (w.heap.size + 2 ≤ w2.heap.size) := by
    show _ ≤ _
    have := (Array.getElem?_eq_some_iff.1 hp1).1
    rw [hO2.size]; omega
  have HP2 : Hid (PalAt w2 (w.heap.size + 1) [] K (palZ K)) := PalAt.zero ((hO2.block _ (by omega)).trans hp1)
  have HZ2 : Hid (w2.heap[w.heap.size]? = some (.cells (palZ 0) 48 (0, 0))) := (hO2.block _ (by omega)).trans hr1
  have HR2 : Hid (Rdr w2 q (some ⟨b, o2, none⟩) n2 c2) := hR2
  have Ho2 : Hid (K = c ∨ o2 = off + K) := ho2
  have HBt : Hid (Bytes w (some ⟨b, off, none⟩) n bs) := HB
  clear hb1 hr1 hp1 hO2 hR2 ho2 hR
  go_wp2
  go_loopw [6, 15] (fun last i wr => ∃ (J : Nat) (Y : Int) (X : Array Value), J ≤ K ∧ i = .int .i64 (J : Int) ∧ last = .int .i64 Y ∧ Hid (Y = lastOf (bs.take K) J) ∧ Hid (PalAt wr (w.heap.size + 1) ((bs.take K).take J) K X) ∧
    Hid (wr.heap[w.heap.size]? = some (.cells (palZ 0) 48 (0, 0))) ∧ Hid (Rdr wr q (some ⟨b, o2, none⟩) n2 c2) ∧ Hid (Below q w wr) ∧ Hid (okTo (bs.take K) J)) (fun _ i _ => K - (intOf i).toNat)
  case atStart => exact ⟨0, -1, palZ K, Nat.zero_le _, rfl, rfl, rfl, by rw [List.take_zero]; exact HP2, HZ2, HR2, Hb2, fun i hi => absurd hi (Nat.not_lt_zero _)⟩
  case round =>
    obtain ⟨J, Y, X, hJ, rfl, rfl, HY, HP, HZ, HR, Hb, HO⟩ := hrel
    clear HP2 HZ2 HR2 Hb2 Hs2
    by_cases hlt : J < K
    · have hlt' : (J : Int) < K := by omega
      obtain ⟨bb, oo, x, e1, cx, x0, x1, hJl, hx⟩ := (HB.out.under Hb.out hbq).get J (by omega)
      cases e1
      have Hx : Hid ((bs.take K).getD J 0 = x) := by
        show _ = _
        rw [List.getD_eq_getElem?_getD, List.getElem?_take, if_pos hlt, List.getElem?_eq_getElem hJl, hx]; rfl
      have HJ : Hid (J < (bs.take K).length) := by show _ < _; rw [HL.out]; exact hlt
      clear hx hJl
      by_cases h1 : Y < x
      · by_cases h2 : x < 17
        · have HO2 : Hid (okTo (bs.take K) (J + 1)) := okTo_more HO.out Hx.out (by rw [← HY.out]; exact h1) h2
          have HY2 : Hid (x = lastOf (bs.take K) (J + 1)) := by show _ = _; unfold lastOf; rw [if_neg (by omega), Nat.add_sub_cancel, Hx.out]
          have HP' : Hid (PalAt (wr.setCell ⟨w.heap.size + 1, J, none⟩ (.int .u8 x)) (w.heap.size + 1) ((bs.take K).take (J + 1)) K (X.setIfInBounds J (.int .u8 x))) :=
            HP.out.set (by omega) (fun j _ => by rw [take_getD _ J j HJ.out, Hx.out])
          have HZ' : Hid ((wr.setCell ⟨w.heap.size + 1, J, none⟩ (.int .u8 x)).heap[w.heap.size]? = some (.cells (palZ 0) 48 (0, 0))) := (Below.heap_setCell wr ⟨w.heap.size + 1, J, none⟩ _ _ (by simp)).trans HZ.out
          have HR' : Hid (Rdr (wr.setCell ⟨w.heap.size + 1, J, none⟩ (.int .u8 x)) q (some ⟨b, o2, none⟩) n2 c2) := (Below.heap_setCell wr ⟨w.heap.size + 1, J, none⟩ _ q (by simp; omega)).trans HR.out
          have Hb' : Hid (Below q w (wr.setCell ⟨w.heap.size + 1, J, none⟩ (.int .u8 x))) := Hb.out.setCell (p := ⟨w.heap.size + 1, J, none⟩) (by simp; omega) _
          have hold := HP.out.cell (j := J) (by omega)
          have hfr := HP.out.free J
          have hJ17 : (J : Int) < 17 := by omega
          have H2 : Hid (x < 17) := h2
          clear HO HY HP HZ HR Hb Hx HJ
          generalize ((bs.take K).take J).getD J 0 = old at hold
          go_wp2_with fail
          refine (check_yes 4 wr).mono ?_
          rintro _ _ ⟨rfl, rfl⟩
          go_wp2
          go_roundw
          case rel => exact ⟨J + 1, x, _, by omega, by go_num, rfl, HY2, HP', HZ', HR', Hb', HO2⟩
          case measure => simp [intOf]; omega
        · have HF : Hid (okPal (bs.take K) = false) := (okTo_stop HJ.out Hx.out x0 (by omega))
          have H2 : Hid (¬ x < 17) := h2
          clear HO HY HP HZ HR Hx HJ
          go_wp2_with fail
          refine (check_no 4 wr).mono ?_
          rintro _ _ ⟨rfl, rfl⟩
          go_wp2
          exact ⟨rfl, Hb.out, Or.inl ⟨HF.out, rfl⟩⟩
      · have HF : Hid (okPal (bs.take K) = false) := (okTo_stop HJ.out Hx.out x0 (by rw [← HY.out]; omega))
        clear HO HY HP HZ HR Hx HJ
        go_wp2_with fail
        refine (check_no 4 wr).mono ?_
        rintro _ _ ⟨rfl, rfl⟩
        go_wp2
        exact ⟨rfl, Hb.out, Or.inl ⟨HF.out, rfl⟩⟩
    · obtain rfl : J = K := by omega
      have hlt' : ¬ (J : Int) < J := by omega
      have Hok : Hid (okPal (bs.take J) = true) := okTo_all (by rw [HL.out]; exact HO.out)
      have hp := HP.out
      rw [List.take_take, Nat.min_self] at hp
      clear HO HY
      go_wp2_with (first
        | (refine wpList_load_pal rfl (.tmp 5) rfl (w.heap.size + 1) X rfl hp.heap hp.size ?_)
        | (refine wpList_store_pal rfl (.tmp 4) (.tmp 37) rfl w.heap.size X rfl rfl (palZ 0) HZ.out rfl hp.size hp.one ?_; intro w5 hO5 hp5))
      refine bodyPost_ret (results_cell_row rfl _ _ w.heap.size 48 X (0, 0) _ rfl hp5 Try.underlying48 rfl (by rw [hp.size]; kernel_rfl)) rfl ?_
      exact ⟨Hb.out.trans (hO5.below (by omega)), Or.inr ⟨Hok.out, X, rfl, hp.is HL.out, Hmv.out w5 o2 (Hb.out.trans (hO5.below (by omega))) Ho2.out (HR.out.only hO5 (by omega))⟩⟩
end Go.Proofs.Ytdkihhjhjfkjjaa
