/-
  The document's Header: a header's bytes are read, or refused.
-/
import Derived.Test.YtdjhlpllffakpaaGplans
set_option maxRecDepth 20000
namespace Go.Proofs.Ytdjhlpllffakpaa
open Go.RowKit

/-- Ints of one's own. -/
def OwnI (w : World) (lo : Nat) (a : Option Addr) (c : Nat) (l : List Int) : Prop := w.ownsRow lo 3 1 (.slice a l.length c) l.length (l.map (Value.int .i64))
theorem OwnI.at {w : World} {lo : Nat} {a : Option Addr} {c : Nat} {l : List Int} (h : OwnI w lo a c l) (k : Nat) (hk : k < l.length) : ∃ b, a = some ⟨b, 0, none⟩ ∧ w.cell? ⟨b, k, none⟩ = some (.int .i64 l[k]) := by
  rcases h.2 with ⟨_, h0⟩ | ⟨g, cap, cur, hv, _, _⟩
  · omega
  · simp only [Value.slice.injEq] at hv
    refine ⟨g, hv.1, ?_⟩
    have h' : w.ownsRow lo 3 1 (.slice (some ⟨g, 0, none⟩) l.length c) l.length (l.map (Value.int .i64)) := by rw [← hv.1]; exact h
    have := World.ownsRow.cellAt h' k (by omega)
    rw [this]
    simp [hk]
theorem row_blk {W : World} {lo n k : Nat} {e : TypeId} {v : Value} {xs : List Value} (h : W.ownsRow lo e n v k xs) : ∀ r, v.ownBlock = some r → lo ≤ r ∧ ∃ cs, W.heap[r]? = some (.cells cs e (0, 0)) := by
  intro r hr
  rcases h.2 with ⟨rfl, _⟩ | ⟨g', cap, cur, rfl, hlo, hb, _⟩
  · simp [Value.ownBlock] at hr
  · obtain rfl : g' = r := by simpa [Value.ownBlock] using hr
    exact ⟨hlo, _, hb⟩
/-- A block of another type is not the row's. -/
theorem grown_keep {W W' : World} {lo n k b : Nat} {e t : TypeId} {v : Value} {xs : List Value} {cs : Array Value} {fr : Nat × Nat} (h : W.ownsRow lo e n v k xs) (hg : W.grownBy W' v.ownBlock) (hb : W.heap[b]? = some (.cells cs t fr)) (ht : t ≠ e) : W'.heap[b]? = some (.cells cs t fr) := by
  refine (hg.block b (Array.getElem?_eq_some_iff.1 hb).1 (fun e' => ?_)).trans hb
  obtain ⟨_, cs', h2⟩ := row_blk h b e'.symm
  rw [hb] at h2
  cases h2
  exact ht rfl
theorem grown_row {W W' : World} {lo lo2 n k m c2 : Nat} {e t : TypeId} {v : Value} {a2 : Option Addr} {xs ys : List Value} {n2 : Nat} (h : W.ownsRow lo e n v k xs) (hg : W.grownBy W' v.ownBlock) (h2 : W.ownsRow lo2 t n2 (.slice a2 m c2) m ys) (ht : t ≠ e) : W'.ownsRow lo2 t n2 (.slice a2 m c2) m ys := by
  refine ownsRow_same h2 (fun b eb => ?_)
  obtain ⟨_, cs, hb⟩ := row_blk h2 b (by rw [eb]; rfl)
  rw [hb]
  exact grown_keep h hg hb ht
theorem row_other {W : World} {lo n m c b j : Nat} {e t : TypeId} {a : Option Addr} {xs : List Value} {cs : Array Value} {fr : Nat × Nat} {v : Value} (h : W.ownsRow lo e n (.slice a m c) m xs) (hb : W.heap[b]? = some (.cells cs t fr)) (ht : t ≠ e) : (W.setCell ⟨b, j, none⟩ v).ownsRow lo e n (.slice a m c) m xs := by
  refine ownsRow_same h (fun g eg => Below.heap_setCell W ⟨b, j, none⟩ v g (fun e' => ?_))
  obtain ⟨_, cs', h2⟩ := row_blk h g (by rw [eg]; rfl)
  simp only at e'
  rw [e', hb] at h2
  cases h2
  exact ht rfl
/-! ### plain -/
theorem tkR_zero (l : List Sp) (f : Nat) : tkR (l ++ [(f, 0)]) = tkR l := by
  unfold tkR
  refine List.map_congr_left (fun i _ => ?_)
  rw [cnt_append, cnt_nil, Nat.add_zero]
theorem tkR_step (l : List Sp) (f q : Nat) (h : f + q < 40) : (tkR (l ++ [(f, q)])).set (f + q) true = tkR (l ++ [(f, q + 1)]) := by
  have h1 : cnt [(f, q + 1)] (f + q) = 1 := by rw [cnt_one]; unfold covers; rw [decide_eq_true (by simp only; omega)]; rfl
  have h2 : ∀ i, f + q ≠ i → cnt [(f, q + 1)] i = cnt [(f, q)] i := fun i hi => by
    rw [cnt_one, cnt_one]
    unfold covers
    rw [show decide ((f, q + 1).1 ≤ i ∧ i < (f, q + 1).1 + (f, q + 1).2) = decide ((f, q).1 ≤ i ∧ i < (f, q).1 + (f, q).2) from decide_eq_decide.2 (by simp only; omega)]
  apply List.ext_getElem?
  intro i
  rw [List.getElem?_set, tkR_len]
  by_cases hi : i < 40
  · have e : ∀ m, (tkR m)[i]? = some (decide (0 < cnt m i)) := fun m => by simp [tkR, hi]
    rw [e, e, cnt_append, cnt_append]
    by_cases hk : f + q = i
    · subst hk
      rw [if_pos rfl, if_pos hi, h1]
      simp
    · rw [if_neg hk, h2 i hk]
  · rw [if_neg (by omega), List.getElem?_eq_none (by rw [tkR_len]; omega), List.getElem?_eq_none (by rw [tkR_len]; omega)]
theorem tkR_nil : tkR [] = List.replicate 40 false := by decide
theorem cnt_here (l : List Sp) (f q : Nat) : cnt (l ++ [(f, q)]) (f + q) = cnt l (f + q) := by
  rw [cnt_append, cnt_one]
  unfold covers
  rw [decide_eq_false (by simp only; omega)]
  rfl
theorem cnt_take {l : List (Sp × Nat)} (i j : Nat) : cnt ((l.take i).map (·.1)) j ≤ cnt (l.map (·.1)) j := by
  conv => rhs; rw [← List.take_append_drop i l, List.map_append, cnt_append]
  omega
theorem slice_of {w : World} {lo n k : Nat} {e : TypeId} {v : Value} {xs : List Value} (hk : 0 < k) (h : w.ownsRow lo e n v k xs) : ∃ a c, v = .slice a k c := by
  rcases h.2 with ⟨_, h0⟩ | ⟨g, cap, _, hv, _⟩
  · omega
  · exact ⟨_, _, hv⟩
/-- On the way through the header. -/
structure Hs (w : World) (bs : List Int) (tb i : Nat) (la : Option Addr) (lc : Nat) (na : Option Addr) (nc : Nat) (wr : World) : Prop where
  sp : OwnSp wr w.heap.size la lc (((entS bs).take i).map (·.1))
  ns : OwnI wr w.heap.size na nc (((entS bs).take i).map fun h => (h.2 : Int))
  tk : wr.heap[tb]? = some (.cells (bvals (tkR (((entS bs).take i).map (·.1)))) 4 (0, 0))
  bel : Below w.heap.size w wr
  ok : ∀ h ∈ (entS bs).take i, entOk h
  once : ∀ j, cnt (((entS bs).take i).map (·.1)) j ≤ 1
theorem ownsRow_on {W W' : World} {b e size k c : Nat} {a : Option Addr} {xs : List Value} (h : W.ownsRow b e size (.slice a k c) k xs) (hB : Below W.heap.size W W') : W'.ownsRow b e size (.slice a k c) k xs :=
  ownsRow_same h (fun g eg => by
    obtain ⟨_, cs, h2⟩ := row_blk h g (by rw [eg]; rfl)
    exact hB.block g (Array.getElem?_eq_some_iff.1 h2).1)
theorem Hs.on {w : World} {bs : List Int} {tb i : Nat} {la : Option Addr} {lc : Nat} {na : Option Addr} {nc : Nat} {wr wr' : World} (H : Hs w bs tb i la lc na nc wr) (hb : Below wr.heap.size wr wr') : Hs w bs tb i la lc na nc wr' :=
  ⟨ownsRow_on H.sp hb, ownsRow_on H.ns hb, (hb.block tb (Array.getElem?_eq_some_iff.1 H.tk).1).trans H.tk, H.bel.trans (hb.mono H.bel.size), H.ok, H.once⟩
/-- In the midst of a round. -/
structure Hm (w : World) (bs : List Int) (tb xb F M i : Nat) (la : Option Addr) (lc : Nat) (na : Option Addr) (nc : Nat) (wr : World) : Prop where
  sp : OwnSp wr w.heap.size la lc (((entS bs).take (i + 1)).map (·.1))
  ns : OwnI wr w.heap.size na nc (((entS bs).take (i + 1)).map fun h => (h.2 : Int))
  tk : wr.heap[tb]? = some (.cells (bvals (tkR (((entS bs).take i).map (·.1)))) 4 (0, 0))
  box : wr.heap[xb]? = some (.cells #[.int .i64 (F : Int), .int .i64 (M : Int)] 41 (0, 0))
  bel : Below w.heap.size w wr
  ok : ∀ h ∈ (entS bs).take i, entOk h
  once : ∀ j, cnt (((entS bs).take i).map (·.1)) j ≤ 1
theorem Hm.drewN {w : World} {bs : List Int} {tb xb F M i : Nat} {la : Option Addr} {lc : Nat} {na : Option Addr} {nc : Nat} {wr : World} (H : Hm w bs tb xb F M i la lc na nc wr) (q : Nat) : Hm w bs tb xb F M i la lc na nc (wr.drewN q) :=
  ⟨H.sp, H.ns, H.tk, H.box, ⟨H.bel.os, H.bel.tape, H.bel.output, H.bel.size, H.bel.block⟩, H.ok, H.once⟩
/-- In the midst of a slot's sectors. -/
structure Hq (w : World) (bs : List Int) (tb xb F M i : Nat) (la : Option Addr) (lc : Nat) (na : Option Addr) (nc : Nat) (q : Nat) (wr : World) : Prop where
  sp : OwnSp wr w.heap.size la lc (((entS bs).take (i + 1)).map (·.1))
  ns : OwnI wr w.heap.size na nc (((entS bs).take (i + 1)).map fun h => (h.2 : Int))
  tk : wr.heap[tb]? = some (.cells (bvals (tkR (((entS bs).take i).map (·.1) ++ [(F, q)]))) 4 (0, 0))
  box : wr.heap[xb]? = some (.cells #[.int .i64 (F : Int), .int .i64 (M : Int)] 41 (0, 0))
  bel : Below w.heap.size w wr
  free : ∀ q', q' < q → cnt (((entS bs).take i).map (·.1)) (F + q') = 0
theorem entS_len (bs : List Int) : (entS bs).length = 16 := by simp [entS]
theorem entS_at (bs : List Int) (i : Nat) (h : i < (entS bs).length) : (entS bs)[i] = (((bs.getD (4 * i) 0).toNat, (bs.getD (4 * i + 1) 0).toNat), (bs.getD (4 * i + 2) 0).toNat + 256 * (bs.getD (4 * i + 3) 0).toNat) := by simp [entS]
/-- What the document's Header answers. -/
def HeadSay (bs : List Int) (w : World) (e : Ending) (w' : World) : Prop := Below w.heap.size w w' ∧ ((¬ HdOk (entS bs) ∧ e = .returned (.tuple #[.slice none 0 0, .slice none 0 0, .bool false])) ∨
  (HdOk (entS bs) ∧ ∃ la lc na nc, e = .returned (.tuple #[.slice la 16 lc, .slice na 16 nc, .bool true]) ∧ OwnSp w' w.heap.size la lc ((entS bs).map (·.1)) ∧ OwnI w' w.heap.size na nc ((entS bs).map fun h => (h.2 : Int))))
theorem int_one (w : World) (x : Int) : ∀ j u, [Value.int .i64 x][j]? = some u → (w.alloc (.cells #[.int .i64 x] 3)).cell? (Addr.add ⟨w.heap.size, 0, none⟩ j) = some u := by
  intro j u hj
  have e := cell_of_row (w.alloc (.cells #[.int .i64 x] 3)) w.heap.size j _ 3 (0, 0) (heap_alloc_new w _)
  match j with
  | 0 => simpa [Addr.add] using e.trans hj
  | j + 1 => simp at hj
theorem sps_one (w : World) (f m : Nat) : SpsAt (w.alloc (.cells #[.int .i64 (f : Int), .int .i64 (m : Int)] 41)) (some ⟨w.heap.size, 0, none⟩) [(f, m)] := by
  refine .inr ⟨w.heap.size, 0, rfl, fun j u hj => ?_⟩
  rw [Nat.zero_add, cell_of_row (w.alloc (.cells #[.int .i64 (f : Int), .int .i64 (m : Int)] 41)) w.heap.size j _ 41 (0, 0) (heap_alloc_new w _)]
  simpa [spCells, spc] using hj

set_option maxHeartbeats 4000000 in
theorem rheader_c (a : Option Addr) (c : Nat) (bs : List Int) (w : World) (hB : Bytes w a 64 bs) : Calls Try.prog 14 #[.slice a 64 c] w (HeadSay bs w) := by
  obtain ⟨Post, hPost⟩ : ∃ Post, Post = HeadSay bs w := ⟨_, rfl⟩
  rw [← hPost]
  have HP : Hid (∀ e w', HeadSay bs w e w' → Post e w') := fun e w' h => by rw [hPost]; exact h
  clear hPost
  have HNo : Hid (∀ w', Below w.heap.size w w' → ¬ HdOk (entS bs) → Post (.returned (.tuple #[.slice none 0 0, .slice none 0 0, .bool false])) w') := fun w' h1 h2 => HP.out _ _ ⟨h1, .inl ⟨h2, rfl⟩⟩
  have hbn := hB.n
  obtain ⟨bb, bo, rfl, hcells⟩ : ∃ bb bo, a = some ⟨bb, bo, none⟩ ∧ ∀ k (h : k < bs.length), w.cell? ⟨bb, bo + k, none⟩ = some (.int .u8 bs[k]) := by
    rcases hB.cells with e | h
    · rw [e] at hbn; simp at hbn
    · obtain ⟨b, o, e, h⟩ := h
      exact ⟨b, o, e, h⟩
  have Hcell : Hid (∀ k, k < 64 → ∃ F : Nat, F ≤ 255 ∧ (bs.getD k 0).toNat = F ∧ w.cell? ⟨bb, bo + k, none⟩ = some (.int .u8 (F : Int))) := fun k hk => by
    have h1 := hcells k (by omega)
    have h2 := hB.fit bs[k] (List.getElem_mem _)
    obtain ⟨F, hF⟩ := Int.eq_ofNat_of_zero_le h2.1
    refine ⟨F, by omega, ?_, by rw [h1, hF]⟩
    rw [List.getD_eq_getElem?_getD, List.getElem?_eq_getElem (by omega), Option.getD_some, hF]
    rfl
  clear hcells hbn hB
  go_enter Try.func14, Try.ntmps14
  go_wp2_with (at_make; refine wpList_make_bools _ rfl _ _ rfl 40 40 rfl rfl rfl (by omega) ?_; intro w1 HT hb1)
  obtain ⟨tb, htb⟩ : ∃ tb, tb = w.heap.size := ⟨_, rfl⟩
  rw [← htb] at HT ⊢
  have Htb : Hid (tb = w.heap.size) := htb
  have HH0 : Hid (Hs w bs tb 0 none 0 none 0 w1) := ⟨World.ownsRow_nil _ _ _ _, World.ownsRow_nil _ _ _ _, by rw [List.take_zero]; exact (show tkR [] = _ from tkR_nil) ▸ HT.out, hb1, fun h hh => by simp at hh, fun j => by simp [cnt]⟩
  clear HT hb1 htb
  go_loopw [5, 6, 8] (fun lv nv iv wr => ∃ (i : Nat) (la : Option Addr) (lc : Nat) (na : Option Addr) (nc : Nat), i ≤ 16 ∧ lv = .slice la i lc ∧ nv = .slice na i nc ∧ iv = .int .i64 (i : Int) ∧ Hid (Hs w bs tb i la lc na nc wr)) (fun _ _ iv _ => 16 - (intOf iv).toNat)
  case atStart => exact ⟨0, none, 0, none, 0, by omega, rfl, rfl, rfl, HH0.out⟩
  case round =>
    clear HH0
    obtain ⟨i, la, lc, na, nc, hi, rfl, rfl, rfl, HH⟩ := hrel
    by_cases hlt : i < 16
    · have hlt' : (i : Int) < 16 := by omega
      obtain ⟨F, hF, eF, hc0⟩ := Hcell.out (4 * i) (by omega)
      obtain ⟨M, hM, eM, hc1⟩ := Hcell.out (4 * i + 1) (by omega)
      obtain ⟨N0, hN0, eN0, hc2⟩ := Hcell.out (4 * i + 2) (by omega)
      obtain ⟨N1, hN1, eN1, hc3⟩ := Hcell.out (4 * i + 3) (by omega)
      have hil : i < (entS bs).length := by rw [entS_len]; exact hlt
      have Hent : Hid ((entS bs)[i] = ((F, M), N0 + 256 * N1)) := by show _ = _; rw [entS_at bs i hil, eF, eM, eN0, eN1]
      obtain ⟨I0, hI0⟩ : ∃ I0, I0 = 4 * i := ⟨_, rfl⟩
      obtain ⟨I1, hI1⟩ : ∃ I1, I1 = 4 * i + 1 := ⟨_, rfl⟩
      obtain ⟨I2, hI2⟩ : ∃ I2, I2 = 4 * i + 2 := ⟨_, rfl⟩
      obtain ⟨I3, hI3⟩ : ∃ I3, I3 = 4 * i + 3 := ⟨_, rfl⟩
      rw [← hI0] at hc0
      rw [← hI1] at hc1
      rw [← hI2] at hc2
      rw [← hI3] at hc3
      have HC0 : Hid (w.cell? ⟨bb, bo + I0, none⟩ = some (.int .u8 (F : Int))) := hc0
      have HC1 : Hid (w.cell? ⟨bb, bo + I1, none⟩ = some (.int .u8 (M : Int))) := hc1
      have HC2 : Hid (w.cell? ⟨bb, bo + I2, none⟩ = some (.int .u8 (N0 : Int))) := hc2
      have HC3 : Hid (w.cell? ⟨bb, bo + I3, none⟩ = some (.int .u8 (N1 : Int))) := hc3
      have wr0 : IntKind.i64.wrap (4 * (i : Int)) = (I0 : Int) := by rw [IntKind.wrap_i64]; omega
      have wr1 : IntKind.i64.wrap ((I0 : Int) + 1) = (I1 : Int) := by rw [IntKind.wrap_i64]; omega
      have wr2 : IntKind.i64.wrap ((I0 : Int) + 2) = (I2 : Int) := by rw [IntKind.wrap_i64]; omega
      have wr3 : IntKind.i64.wrap ((I0 : Int) + 3) = (I3 : Int) := by rw [IntKind.wrap_i64]; omega
      have l0 : (I0 : Int) < 64 := by omega
      have l1 : (I1 : Int) < 64 := by omega
      have l2 : (I2 : Int) < 64 := by omega
      have l3 : (I3 : Int) < 64 := by omega
      have wF : IntKind.i64.wrap (F : Int) = (F : Int) := by rw [IntKind.wrap_i64]; omega
      have wM : IntKind.i64.wrap (M : Int) = (M : Int) := by rw [IntKind.wrap_i64]; omega
      clear hI0 hI1 hI2 hI3
      clear eF eM eN0 eN1 hc0 hc1 hc2 hc3
      go_wp2_with fail
      refine region_L (fun w' => Below w.heap.size w w') 15 (by kernel_rfl) ?_
      have HHa : Hid (Hs w bs tb i la lc na nc wr.drew) := HH.out.on ((Below.refl _ _).drew)
      generalize wr.drew = va at *
      have hHeld : (fun w' => Below w.heap.size w w') _ := HHa.out.bel
      have hne : Nonempty (Sub (fun w' => Below w.heap.size w w')) := ⟨⟨_, hHeld⟩⟩
      have k0 : ∀ s : Sub (fun w' => Below w.heap.size w w'), s.w.cell? ⟨bb, bo + I0, none⟩ = some (.int .u8 (F : Int)) := fun s => cell_below HC0.out s.ok
      have k1 : ∀ s : Sub (fun w' => Below w.heap.size w w'), s.w.cell? ⟨bb, bo + I1, none⟩ = some (.int .u8 (M : Int)) := fun s => cell_below HC1.out s.ok
      refine take_L (i := 0) rfl (by kernel_rfl) (by kernel_rfl) (by kernel_rfl) (by kernel_rfl) (fun _ _ _ _ h => h) (by exact hHeld) (fun K hK => ?_)
      go_simp
      refine hK _ ?_
      clear hK K
      refine take_L (i := 1) rfl (by kernel_rfl) (by kernel_rfl) (by kernel_rfl) (by kernel_rfl) (fun _ _ _ _ h => h) (by exact hHeld) (fun K hK => ?_)
      go_simp
      refine hK _ ?_
      clear hK K
      refine take_L (i := 2) rfl (by kernel_rfl) (by kernel_rfl) (by kernel_rfl) (by kernel_rfl) (fun _ _ _ _ h => h) (by exact hHeld) (fun K hK => ?_)
      go_simp
      refine hK _ ?_
      clear hK K
      refine take_L (i := 3) rfl (by kernel_rfl) (by kernel_rfl) (by kernel_rfl) (by kernel_rfl) (fun _ _ _ _ h => h) (by exact hHeld) (fun K hK => ?_)
      go_simp
      refine hK _ ?_
      clear hK K
      refine take_L (i := 4) rfl (by kernel_rfl) (by kernel_rfl) (by kernel_rfl) (by kernel_rfl) (fun _ _ _ _ h => h) (by exact hHeld) (fun K hK => ?_)
      go_simp
      refine hK _ ?_
      clear hK K
      refine take_L (i := 5) rfl (by kernel_rfl) (by kernel_rfl) (by kernel_rfl) (by kernel_rfl) (fun _ _ _ _ h => h) (by exact hHeld) (fun K hK => ?_)
      go_simp
      refine hK _ ?_
      clear hK K
      refine take_L (i := 6) rfl (by kernel_rfl) (by kernel_rfl) (by kernel_rfl) (by kernel_rfl) (fun _ _ _ _ h => h) (by exact hHeld) (fun K hK => ?_)
      go_simp
      refine hK _ ?_
      clear hK K
      refine take_L (i := 7) rfl (by kernel_rfl) (by kernel_rfl) (by kernel_rfl) (by kernel_rfl) (fun _ _ _ _ h => h) (by exact hHeld) (fun K hK => ?_)
      go_simp
      refine hK _ ?_
      clear hK K
      refine take_L (i := 8) rfl (by kernel_rfl) (by kernel_rfl) (by kernel_rfl) (by kernel_rfl) (fun _ _ _ _ h => h) (by exact hHeld) (fun K hK => ?_)
      go_simp
      refine hK _ ?_
      clear hK K
      refine take_L (i := 9) rfl (by kernel_rfl) (by kernel_rfl) (by kernel_rfl) (by kernel_rfl) (fun _ _ _ _ h => h) (by exact hHeld) (fun K hK => ?_)
      go_simp
      refine hK _ ?_
      clear hK K
      refine take_L (i := 10) rfl (by kernel_rfl) (by kernel_rfl) (by kernel_rfl) (by kernel_rfl) (fun _ _ _ _ h => h) (by exact hHeld) (fun K hK => ?_)
      go_simp
      refine hK _ ?_
      clear hK K
      refine take_L (i := 11) rfl (by kernel_rfl) (by kernel_rfl) (by kernel_rfl) (by kernel_rfl) (fun _ _ _ _ h => h) (by exact hHeld) (fun K hK => ?_)
      go_simp
      refine hK _ ?_
      clear hK K
      refine take_L (i := 12) rfl (by kernel_rfl) (by kernel_rfl) (by kernel_rfl) (by kernel_rfl) (fun _ _ _ _ h => h) (by exact hHeld) (fun K hK => ?_)
      go_simp
      refine hK _ ?_
      clear hK K
      refine take_L (i := 13) rfl (by kernel_rfl) (by kernel_rfl) (by kernel_rfl) (by kernel_rfl) (fun _ _ _ _ h => h) (by exact hHeld) (fun K hK => ?_)
      go_simp
      refine hK _ ?_
      clear hK K
      refine one_L (i := 14) (by kernel_rfl) rfl (fun K hK => ?_)
      go_simp
      obtain ⟨vb, hvb⟩ : ∃ vb, vb = va.alloc (.cells #[.int .i64 0, .int .i64 0] 41) := ⟨_, rfl⟩
      have hbv : Below va.heap.size va vb := by rw [hvb]; exact (Below.refl _ _).alloc (Nat.le_refl _) _
      have Hxv : Hid (vb.heap[va.heap.size]? = some (.cells #[.int .i64 0, .int .i64 0] 41 (0, 0))) := by rw [hvb]; exact heap_alloc_new va _
      have HHb : Hid (Hs w bs tb i la lc na nc vb) := HHa.out.on hbv
      rw [← hvb]
      clear hvb
      replace hHeld : (fun w' => Below w.heap.size w w') _ := (Below.trans hHeld (hbv.mono hHeld.size))
      refine hK.out _ _ (fun _ => hHeld) ?_
      clear hK K
      refine one_L (i := 15) (by kernel_rfl) rfl (fun K hK => ?_)
      obtain ⟨xb, hxb⟩ : ∃ xb, xb = va.heap.size := ⟨_, rfl⟩
      rw [← hxb] at Hxv ⊢
      have Hxb : Hid (xb = va.heap.size) := hxb
      clear hxb
      have x0 : vb.cell? ⟨xb, 0, none⟩ = some (.int .i64 0) := (cell_of_row vb _ 0 _ 41 (0, 0) Hxv.out).trans rfl
      have f0 : vb.frozen? ⟨xb, 0, none⟩ = false := frozen_of_row vb _ _ _ 41 Hxv.out
      have hx1 : (vb.setCell ⟨xb, 0, none⟩ (.int .i64 (F : Int))).heap[xb]? = some (.cells #[.int .i64 (F : Int), .int .i64 0] 41 (0, 0)) := by rw [heap_setCell_same vb xb 0 _ 41 _ Hxv.out]; rfl
      have x1 : (vb.setCell ⟨xb, 0, none⟩ (.int .i64 (F : Int))).cell? ⟨xb, 1, none⟩ = some (.int .i64 0) := (cell_of_row _ _ 1 _ 41 (0, 0) hx1).trans rfl
      have f1 : (vb.setCell ⟨xb, 0, none⟩ (.int .i64 (F : Int))).frozen? ⟨xb, 1, none⟩ = false := frozen_of_row _ _ _ _ 41 hx1
      have Hx2 : Hid (((vb.setCell ⟨xb, 0, none⟩ (.int .i64 (F : Int))).setCell ⟨xb, 1, none⟩ (.int .i64 (M : Int))).heap[xb]? = some (.cells #[.int .i64 (F : Int), .int .i64 (M : Int)] 41 (0, 0))) := by rw [heap_setCell_same _ xb 1 _ 41 _ hx1]; rfl
      have Hbv2 : Hid (Below va.heap.size va ((vb.setCell ⟨xb, 0, none⟩ (.int .i64 (F : Int))).setCell ⟨xb, 1, none⟩ (.int .i64 (M : Int)))) := (hbv.setCell (p := ⟨xb, 0, none⟩) (by have := Hxb.out; simp only; omega) _).setCell (p := ⟨xb, 1, none⟩) (by have := Hxb.out; simp only; omega) _
      clear hx1
      go_simp
      refine hK.out _ _ (fun h => absurd rfl h) ?_
      clear hK K
      refine done_L (by kernel_rfl) ?_ _
      have HHc := HHa.out.on Hbv2.out
      have HH1 : Hid (Hs w bs tb i la lc na nc ((vb.setCell ⟨xb, 0, none⟩ (.int .i64 (F : Int))).setCell ⟨xb, 1, none⟩ (.int .i64 (M : Int)))) := HHc
      have Hxlt : Hid (∀ b, la = some ⟨b, 0, none⟩ → b ≠ xb) := fun b e => by
        obtain ⟨_, cs, h2⟩ := row_blk HHa.out.sp b (by rw [e]; rfl)
        have := (Array.getElem?_eq_some_iff.1 h2).1
        have := Hxb.out
        omega
      have Hxt : Hid (tb ≠ xb) := fun e => by
        have := (Array.getElem?_eq_some_iff.1 HHa.out.tk).1
        have := Hxb.out
        omega
      have Hxw : Hid (w.heap.size ≤ xb) := by show _ ≤ _; have := HHa.out.bel.size; have := Hxb.out; omega
      clear hHeld hne k0 k1 HHc HHa HHb Hbv2 Hxv x0 f0 x1 f1 HH hbv Hxb
      generalize (vb.setCell ⟨xb, 0, none⟩ (.int .i64 (F : Int))).setCell ⟨xb, 1, none⟩ (.int .i64 (M : Int)) = vd at *
      have y2 : vd.cell? ⟨bb, bo + I2, none⟩ = some (.int .u8 (N0 : Int)) := cell_below HC2.out HH1.out.bel
      have y3 : vd.cell? ⟨bb, bo + I3, none⟩ = some (.int .u8 (N1 : Int)) := cell_below HC3.out HH1.out.bel
      have HHq : Hid (∀ q, Hs w bs tb i la lc na nc (vd.drewN q)) := fun q => ⟨HH1.out.sp, HH1.out.ns, HH1.out.tk, ⟨HH1.out.bel.os, HH1.out.bel.tape, HH1.out.bel.output, HH1.out.bel.size, HH1.out.bel.block⟩, HH1.out.ok, HH1.out.once⟩
      have Hxq : Hid (∀ q, (vd.drewN q).heap[xb]? = some (.cells #[.int .i64 (F : Int), .int .i64 (M : Int)] 41 (0, 0))) := fun _ => Hx2.out
      clear HH1 Hx2
      go_wp2_with fail
      go_big_quiet (fail)
      have HH2 : Hid (Hs w bs tb i la lc na nc (vd.drewN nq)) := HHq.out nq
      have Hx3 : Hid ((vd.drewN nq).heap[xb]? = some (.cells #[.int .i64 (F : Int), .int .i64 (M : Int)] 41 (0, 0))) := Hxq.out nq
      clear HHq Hxq y2 y3
      generalize vd.drewN nq = ve at *
      obtain ⟨L, hL⟩ : ∃ L, L = ((entS bs).take i).map (·.1) := ⟨_, rfl⟩
      obtain ⟨Ns, hNs⟩ : ∃ Ns, Ns = ((entS bs).take i).map (fun h => (h.2 : Int)) := ⟨_, rfl⟩
      have hLi : L.length = i := by rw [hL, List.length_map, List.length_take, entS_len]; omega
      have hNi : Ns.length = i := by rw [hNs, List.length_map, List.length_take, entS_len]; omega
      obtain ⟨N, hN⟩ : ∃ N, N = N0 + 256 * N1 := ⟨_, rfl⟩
      rw [← hN] at Hent
      have hN2 : N ≤ 65535 := by omega
      have Htake : Hid ((entS bs).take (i + 1) = (entS bs).take i ++ [((F, M), N)]) := by show _ = _; rw [List.take_succ_eq_append_getElem hil, Hent.out]
      rw [show (N0 : Int) + 256 * (N1 : Int) = (N : Int) by omega]
      obtain ⟨i41, hi41, ha0, ha1, ha2⟩ := info_parts info41
      obtain ⟨i3, hi3, hd0, hd1, hd2⟩ := info_parts info3
      have hxc := Hx3.out
      have x0 : ve.cell? ⟨xb, 0, none⟩ = some (.int .i64 (F : Int)) := (cell_of_row ve _ 0 _ 41 (0, 0) hxc).trans rfl
      have x1 : ve.cell? ⟨xb, 1, none⟩ = some (.int .i64 (M : Int)) := (cell_of_row ve _ 1 _ 41 (0, 0) hxc).trans rfl
      have hsp0 : ve.ownsRow w.heap.size 41 2 (.slice la i lc) i (spCells L) := by have := HH2.out.sp; unfold OwnSp at this; rw [← hL, hLi] at this; exact this
      have hns0 : ve.ownsRow w.heap.size 3 1 (.slice na i nc) i (Ns.map (Value.int .i64)) := by have := HH2.out.ns; unfold OwnI at this; rw [← hNs, hNi] at this; exact this
      have htk0 : ve.heap[tb]? = some (.cells (bvals (tkR L)) 4 (0, 0)) := by rw [hL]; exact HH2.out.tk
      have hbe0 := HH2.out.bel
      have hbA : Below ve.heap.size ve (ve.alloc (.cells #[.int .i64 (F : Int), .int .i64 (M : Int)] 41)) := (Below.refl _ _).alloc (Nat.le_refl _) _
      have Hsp1 : Hid ((ve.alloc (.cells #[.int .i64 (F : Int), .int .i64 (M : Int)] 41)).ownsRow w.heap.size 41 2 (.slice la i lc) i (spCells L)) := ownsRow_on hsp0 hbA
      have Hns1 : Hid ((ve.alloc (.cells #[.int .i64 (F : Int), .int .i64 (M : Int)] 41)).ownsRow w.heap.size 3 1 (.slice na i nc) i (Ns.map (Value.int .i64))) := ownsRow_on hns0 hbA
      have Htk1 : Hid ((ve.alloc (.cells #[.int .i64 (F : Int), .int .i64 (M : Int)] 41)).heap[tb]? = some (.cells (bvals (tkR L)) 4 (0, 0))) := (hbA.block tb (Array.getElem?_eq_some_iff.1 htk0).1).trans htk0
      have Hbx1 : Hid ((ve.alloc (.cells #[.int .i64 (F : Int), .int .i64 (M : Int)] 41)).heap[xb]? = some (.cells #[.int .i64 (F : Int), .int .i64 (M : Int)] 41 (0, 0))) := (hbA.block xb (Array.getElem?_eq_some_iff.1 hxc).1).trans hxc
      have Hbe1 : Hid (Below w.heap.size w (ve.alloc (.cells #[.int .i64 (F : Int), .int .i64 (M : Int)] 41))) := hbe0.alloc hbe0.size _
      have Hokk : Hid ((∀ h ∈ (entS bs).take i, entOk h) ∧ ∀ j, cnt (((entS bs).take i).map (·.1)) j ≤ 1) := ⟨HH2.out.ok, HH2.out.once⟩
      have HL : Hid (L = ((entS bs).take i).map (·.1)) := hL
      have HNs : Hid (Ns = ((entS bs).take i).map (fun h => (h.2 : Int))) := hNs
      have HLi : Hid (L.length = i) := hLi
      have HNi : Hid (Ns.length = i) := hNi
      have hnw : ∀ j u, [Value.int .i64 (F : Int), Value.int .i64 (M : Int)][j]? = some u → (ve.alloc (.cells #[.int .i64 (F : Int), .int .i64 (M : Int)] 41)).cell? (Addr.add ⟨ve.heap.size, 0, none⟩ j) = some u := fun j u hj => by
        rcases sps_one ve F M with h | ⟨b, off, e, h⟩
        · cases h
        · cases e
          rw [Addr.add_mid]
          exact h j u (by simpa [spCells, spc] using hj)
      have HMk : Hid (∀ a1 c1 w5 a2 c2 w6, w5.ownsRow w.heap.size 41 2 (.slice a1 (i + 1) c1) (i + 1) (spCells L ++ [.int .i64 (F : Int), .int .i64 (M : Int)]) → (ve.alloc (.cells #[.int .i64 (F : Int), .int .i64 (M : Int)] 41)).grownBy w5 (Value.slice la i lc).ownBlock →
          w6.ownsRow w.heap.size 3 1 (.slice a2 (i + 1) c2) (i + 1) (Ns.map (Value.int .i64) ++ [.int .i64 (N : Int)]) → (w5.alloc (.cells #[.int .i64 (N : Int)] 3)).grownBy w6 (Value.slice na i nc).ownBlock → Hm w bs tb xb F M i a1 c1 a2 c2 w6) := by
        intro a1 c1 w5 a2 c2 w6 h1 g1 h2 g2
        have hns5 := grown_row Hsp1.out g1 Hns1.out (by decide)
        have hbB : Below w5.heap.size w5 (w5.alloc (.cells #[.int .i64 (N : Int)] 3)) := (Below.refl _ _).alloc (Nat.le_refl _) _
        have hnsB := ownsRow_on hns5 hbB
        have htk5 := grown_keep Hsp1.out g1 Htk1.out (by decide)
        have htkB := (hbB.block tb (Array.getElem?_eq_some_iff.1 htk5).1).trans htk5
        have hbx5 : w5.heap[xb]? = some (.cells #[.int .i64 (F : Int), .int .i64 (M : Int)] 41 (0, 0)) := (g1.block xb (Array.getElem?_eq_some_iff.1 Hbx1.out).1 (fun e => by
          cases la with
          | none => simp [Value.ownBlock] at e
          | some ad =>
            rcases Hsp1.out.2 with ⟨hv, _⟩ | ⟨g, cap, cur, hv, _⟩
            · simp at hv
            · simp only [Value.slice.injEq] at hv
              have := Hxlt.out g hv.1
              rw [hv.1] at e
              simp [Value.ownBlock] at e
              omega)).trans Hbx1.out
        have hbxB := (hbB.block xb (Array.getElem?_eq_some_iff.1 hbx5).1).trans hbx5
        have hbe5 : Below w.heap.size w w5 := Hbe1.out.grown g1 Hbe1.out.size (fun k hk => (World.ownsRow.lt Hsp1.out k hk).1)
        have hbeB := hbe5.alloc hbe5.size (.cells #[.int .i64 (N : Int)] 3)
        refine ⟨?_, ?_, ?_, grown_keep hnsB g2 hbxB (by decide), hbeB.grown g2 hbeB.size (fun k hk => (World.ownsRow.lt hnsB k hk).1), Hokk.out.1, Hokk.out.2⟩
        · have e : ((entS bs).take (i + 1)).map (·.1) = L ++ [(F, M)] := by rw [Htake.out, List.map_append, ← HL.out]; rfl
          unfold OwnSp
          rw [e, List.length_append, HLi.out, spCells_append]
          have := ownsRow_on h1 hbB
          exact grown_row hnsB g2 this (by decide)
        · have e : ((entS bs).take (i + 1)).map (fun h => (h.2 : Int)) = Ns ++ [(N : Int)] := by rw [Htake.out, List.map_append, ← HNs.out]; rfl
          unfold OwnI
          rw [e, List.length_append, HNi.out, List.map_append]
          exact h2
        · rw [← HL.out]
          exact grown_keep hnsB g2 htkB (by decide)
      clear hsp0 hns0 htk0 hbe0 hbA HH2 hL hNs hLi hNi hN Hx3 hxc hN0 hN1
      have hfst : True := trivial
      obtain ⟨nd, hnd⟩ : ∃ nd, nd = needS N := ⟨_, rfl⟩
      have Hnd : Hid (nd = needS N) := hnd
      have hndb : nd ≤ 2048 := by rw [hnd]; unfold needS; omega
      clear hnd
      by_cases hz : N = 0 ∧ F = 0 ∧ M = 0
      · obtain ⟨hz1, hz2, hz3⟩ := hz
        have e1 : ((N : Int) == 0) = true := by simp [hz1]
        have e2 : ((F : Int) == 0) = true := by simp [hz2]
        have e3 : ((M : Int) == 0) = true := by simp [hz3]
        have Hz : Hid (N = 0 ∧ F = 0 ∧ M = 0) := ⟨hz1, hz2, hz3⟩
        clear hz1 hz2 hz3
        go_wp2_with (at_builtin; first
          | (refine wpList_append_own _ rfl _ _ 32 rfl w.heap.size 41 i41 (.agg #[.int .i64 0, .int .i64 0]) 2 16 Try.underlying32 hi41 ha0 ha1 ha2 rfl (by decide) _ _ _ rfl Hsp1.out ⟨ve.heap.size, 0, none⟩ 1 1 [.int .i64 (F : Int), .int .i64 (M : Int)] rfl rfl hnw (by simp [Value.oneCell']) (by unfold maxLen; omega) (by omega) Hbe1.out.size ?_; clear hfst hnw; intro v1 w5 hown1 hgrow1 _; obtain ⟨la2, lc2, rfl⟩ := slice_of (by omega) hown1; have Hw1 : Hid _ := hown1; have Hg1 : Hid _ := hgrow1; clear hown1 hgrow1)
          | (refine wpList_append_own _ rfl _ _ 33 rfl w.heap.size 3 i3 (.int .i64 0) 1 8 Try.underlying33 hi3 hd0 hd1 hd2 rfl (by decide) _ _ _ rfl (ownsRow_on (grown_row Hsp1.out Hg1.out Hns1.out (by decide)) ((Below.refl _ _).alloc (Nat.le_refl _) _)) ⟨w5.heap.size, 0, none⟩ 1 1 [.int .i64 (N : Int)] rfl rfl (int_one w5 (N : Int)) (by simp [Value.oneCell']) (by unfold maxLen; omega) (by omega) (by have := Hg1.out.size; have := Hbe1.out.size; simp; omega) ?_; intro v2 w6 hown2 hgrow2 _; obtain ⟨na2, nc2, rfl⟩ := slice_of (by omega) hown2; have HJ : Hid (Hm w bs tb xb F M i la2 lc2 na2 nc2 w6) := HMk.out la2 lc2 w5 na2 nc2 w6 Hw1.out Hg1.out hown2 hgrow2; have HX0 : Hid (w6.cell? ⟨xb, 0, none⟩ = some (.int .i64 (F : Int))) := (cell_of_row w6 _ 0 _ 41 (0, 0) HJ.out.box).trans rfl; have HX1 : Hid (w6.cell? ⟨xb, 1, none⟩ = some (.int .i64 (M : Int))) := (cell_of_row w6 _ 1 _ 41 (0, 0) HJ.out.box).trans rfl; have q0 := HX0.out; have q1 := HX1.out; clear hown2 hgrow2))
        have HH6 : Hid (Hs w bs tb (i + 1) la2 lc2 na2 nc2 w6) := by
          obtain ⟨z1, z2, z3⟩ := Hz.out
          have e : ((entS bs).take (i + 1)).map (·.1) = ((entS bs).take i).map (·.1) ++ [(0, 0)] := by rw [Htake.out, List.map_append, z2, z3]; rfl
          refine ⟨HJ.out.sp, HJ.out.ns, by rw [e, tkR_zero]; exact HJ.out.tk, HJ.out.bel, fun h hh => ?_, fun j => ?_⟩
          · rw [Htake.out] at hh
            rcases List.mem_append.1 hh with h1 | h1
            · exact HJ.out.ok h h1
            · rw [List.mem_singleton.1 h1, z1, z2, z3]
              exact .inl rfl
          · rw [e, cnt_append, cnt_nil]
            exact HJ.out.once j
        clear HJ HX0 HX1 q0 q1 Hw1 Hg1
        go_roundw
        case rel => exact ⟨i + 1, la2, lc2, na2, nc2, by omega, rfl, rfl, by go_num, HH6.out⟩
        case measure => simp [intOf]; omega
      · by_cases hN0 : N = 0
        · by_cases hF0 : F = 0
          · have hM0 : M ≠ 0 := fun h => hz ⟨hN0, hF0, h⟩
            have e1 : ((N : Int) == 0) = true := by simp [hN0]
            have e2 : ((F : Int) == 0) = true := by simp [hF0]
            have e3 : ((M : Int) == 0) = false := by simp; omega
            have HZ : Hid (N = 0 ∧ M ≠ 0) := ⟨hN0, hM0⟩
            clear hN0 hF0 hM0 hz
            go_wp2_with (at_builtin; first
              | (refine wpList_append_own _ rfl _ _ 32 rfl w.heap.size 41 i41 (.agg #[.int .i64 0, .int .i64 0]) 2 16 Try.underlying32 hi41 ha0 ha1 ha2 rfl (by decide) _ _ _ rfl Hsp1.out ⟨ve.heap.size, 0, none⟩ 1 1 [.int .i64 (F : Int), .int .i64 (M : Int)] rfl rfl hnw (by simp [Value.oneCell']) (by unfold maxLen; omega) (by omega) Hbe1.out.size ?_; clear hfst hnw; intro v1 w5 hown1 hgrow1 _; obtain ⟨la2, lc2, rfl⟩ := slice_of (by omega) hown1; have Hw1 : Hid _ := hown1; have Hg1 : Hid _ := hgrow1; clear hown1 hgrow1)
              | (refine wpList_append_own _ rfl _ _ 33 rfl w.heap.size 3 i3 (.int .i64 0) 1 8 Try.underlying33 hi3 hd0 hd1 hd2 rfl (by decide) _ _ _ rfl (ownsRow_on (grown_row Hsp1.out Hg1.out Hns1.out (by decide)) ((Below.refl _ _).alloc (Nat.le_refl _) _)) ⟨w5.heap.size, 0, none⟩ 1 1 [.int .i64 (N : Int)] rfl rfl (int_one w5 (N : Int)) (by simp [Value.oneCell']) (by unfold maxLen; omega) (by omega) (by have := Hg1.out.size; have := Hbe1.out.size; simp; omega) ?_; intro v2 w6 hown2 hgrow2 _; obtain ⟨na2, nc2, rfl⟩ := slice_of (by omega) hown2; have HJ : Hid (Hm w bs tb xb F M i la2 lc2 na2 nc2 w6) := HMk.out la2 lc2 w5 na2 nc2 w6 Hw1.out Hg1.out hown2 hgrow2; have HX0 : Hid (w6.cell? ⟨xb, 0, none⟩ = some (.int .i64 (F : Int))) := (cell_of_row w6 _ 0 _ 41 (0, 0) HJ.out.box).trans rfl; have HX1 : Hid (w6.cell? ⟨xb, 1, none⟩ = some (.int .i64 (M : Int))) := (cell_of_row w6 _ 1 _ 41 (0, 0) HJ.out.box).trans rfl; have q0 := HX0.out; have q1 := HX1.out; clear hown2 hgrow2))
            clear q0 q1 Hw1 Hg1
            refine region_L (fun w' => Below w6.heap.size w6 w') 22 (by kernel_rfl) ?_
            have HBz : Hid (Below w6.heap.size w6 w6.drew) := (Below.refl _ _).drew
            have HJd : Hid (Hm w bs tb xb F M i la2 lc2 na2 nc2 w6.drew) := HJ.out.drewN 1
            generalize w6.drew = va at *
            have hHeld : (fun w' => Below w6.heap.size w6 w') _ := HBz.out
            have hne : Nonempty (Sub (fun w' => Below w6.heap.size w6 w')) := ⟨⟨_, hHeld⟩⟩
            have k0 : ∀ s : Sub (fun w' => Below w6.heap.size w6 w'), s.w.cell? ⟨xb, 0, none⟩ = some (.int .i64 (F : Int)) := fun s => cell_below HX0.out s.ok
            have k1 : ∀ s : Sub (fun w' => Below w6.heap.size w6 w'), s.w.cell? ⟨xb, 1, none⟩ = some (.int .i64 (M : Int)) := fun s => cell_below HX1.out s.ok
            refine take_N (i := 0) rfl (by kernel_rfl) (by kernel_rfl) (by kernel_rfl) (by rfl) (fun _ _ _ _ h => h) (by exact hHeld) (fun K hK => ?_)
            go_simp
            refine hK _ ?_
            clear hK K
            refine take_N (i := 1) rfl (by kernel_rfl) (by kernel_rfl) (by kernel_rfl) (by rfl) (fun _ _ _ _ h => h) (by exact hHeld) (fun K hK => ?_)
            go_simp
            refine hK _ ?_
            clear hK K
            refine take_N (i := 2) rfl (by kernel_rfl) (by kernel_rfl) (by kernel_rfl) (by rfl) (fun _ _ _ _ h => h) (by exact hHeld) (fun K hK => ?_)
            go_simp
            refine hK _ ?_
            clear hK K
            refine take_N (i := 3) rfl (by kernel_rfl) (by kernel_rfl) (by kernel_rfl) (by rfl) (fun _ _ _ _ h => h) (by exact hHeld) (fun K hK => ?_)
            go_simp
            refine hK _ ?_
            clear hK K
            refine take_N (i := 4) rfl (by kernel_rfl) (by kernel_rfl) (by kernel_rfl) (by rfl) (fun _ _ _ _ h => h) (by exact hHeld) (fun K hK => ?_)
            go_simp
            refine hK _ ?_
            clear hK K
            refine take_N (i := 5) rfl (by kernel_rfl) (by kernel_rfl) (by kernel_rfl) (by rfl) (fun _ _ _ _ h => h) (by exact hHeld) (fun K hK => ?_)
            go_simp
            refine hK _ ?_
            clear hK K
            refine take_N (i := 6) rfl (by kernel_rfl) (by kernel_rfl) (by kernel_rfl) (by rfl) (fun _ _ _ _ h => h) (by exact hHeld) (fun K hK => ?_)
            go_simp
            refine hK _ ?_
            clear hK K
            refine take_N (i := 7) rfl (by kernel_rfl) (by kernel_rfl) (by kernel_rfl) (by rfl) (fun _ _ _ _ h => h) (by exact hHeld) (fun K hK => ?_)
            go_simp
            refine hK _ ?_
            clear hK K
            refine take_N (i := 8) rfl (by kernel_rfl) (by kernel_rfl) (by kernel_rfl) (by rfl) (fun _ _ _ _ h => h) (by exact hHeld) (fun K hK => ?_)
            go_simp
            refine hK _ ?_
            clear hK K
            refine take_N (i := 9) rfl (by kernel_rfl) (by kernel_rfl) (by kernel_rfl) (by rfl) (fun _ _ _ _ h => h) (by exact hHeld) (fun K hK => ?_)
            go_simp
            refine hK _ ?_
            clear hK K
            refine take_N (i := 10) rfl (by kernel_rfl) (by kernel_rfl) (by kernel_rfl) (by rfl) (fun _ _ _ _ h => h) (by exact hHeld) (fun K hK => ?_)
            go_simp
            refine hK _ ?_
            clear hK K
            refine take_N (i := 11) rfl (by kernel_rfl) (by kernel_rfl) (by kernel_rfl) (by rfl) (fun _ _ _ _ h => h) (by exact hHeld) (fun K hK => ?_)
            go_simp
            refine hK _ ?_
            clear hK K
            refine take_N (i := 12) rfl (by kernel_rfl) (by kernel_rfl) (by kernel_rfl) (by rfl) (fun _ _ _ _ h => h) (by exact hHeld) (fun K hK => ?_)
            go_simp
            refine hK _ ?_
            clear hK K
            refine take_N (i := 13) rfl (by kernel_rfl) (by kernel_rfl) (by kernel_rfl) (by rfl) (fun _ _ _ _ h => h) (by exact hHeld) (fun K hK => ?_)
            go_simp
            refine hK _ ?_
            clear hK K
            refine take_N (i := 14) rfl (by kernel_rfl) (by kernel_rfl) (by kernel_rfl) (by rfl) (fun _ _ _ _ h => h) (by exact hHeld) (fun K hK => ?_)
            go_simp
            refine hK _ ?_
            clear hK K
            refine take_N (i := 15) rfl (by kernel_rfl) (by kernel_rfl) (by kernel_rfl) (by rfl) (fun _ _ _ _ h => h) (by exact hHeld) (fun K hK => ?_)
            go_simp
            refine hK _ ?_
            clear hK K
            refine take_N (i := 16) rfl (by kernel_rfl) (by kernel_rfl) (by kernel_rfl) (by rfl) (fun _ _ _ _ h => h) (by exact hHeld) (fun K hK => ?_)
            go_simp
            refine hK _ ?_
            clear hK K
            refine take_N (i := 17) rfl (by kernel_rfl) (by kernel_rfl) (by kernel_rfl) (by rfl) (fun _ _ _ _ h => h) (by exact hHeld) (fun K hK => ?_)
            go_simp
            refine hK _ ?_
            clear hK K
            refine take_N (i := 18) rfl (by kernel_rfl) (by kernel_rfl) (by kernel_rfl) (by rfl) (fun _ _ _ _ h => h) (by exact hHeld) (fun K hK => ?_)
            go_simp
            refine hK _ ?_
            clear hK K
            refine take_N (i := 19) rfl (by kernel_rfl) (by kernel_rfl) (by kernel_rfl) (by rfl) (fun _ _ _ _ h => h) (by exact hHeld) (fun K hK => ?_)
            go_simp
            refine hK _ ?_
            clear hK K
            refine take_N (i := 20) rfl (by kernel_rfl) (by kernel_rfl) (by kernel_rfl) (by rfl) (fun _ _ _ _ h => h) (by exact hHeld) (fun K hK => ?_)
            go_simp
            refine hK _ ?_
            clear hK K
            refine take_N (i := 21) rfl (by kernel_rfl) (by kernel_rfl) (by kernel_rfl) (by rfl) (fun _ _ _ _ h => h) (by exact hHeld) (fun K hK => ?_)
            go_simp
            refine hK _ ?_
            clear hK K
            refine done_L (by kernel_rfl) ?_ _
            have R := HNo.out va HJd.out.bel (fun h => by
              have hZ := HZ.out
              have he := h.ok _ (List.getElem_mem hil)
              rw [Hent.out] at he
              have hnd := Hnd.out
              rcases he with he | he
              · simp only [Prod.mk.injEq] at he
                omega
              · simp only at he
                omega)
            clear hHeld hne k0 k1 HP HNo
            go_wp2
            exact bodyPost_ret (results_tmp3 (t := 2) (u := 3) (v := 4) rfl _ _ _) rfl R
          · skip
            have e1 : ((N : Int) == 0) = true := by simp [hN0]
            have e2 : ((F : Int) == 0) = false := by simp; omega
            have HZ : Hid (N = 0 ∧ F ≠ 0) := ⟨hN0, hF0⟩
            clear hN0 hF0 hz
            go_wp2_with (at_builtin; first
              | (refine wpList_append_own _ rfl _ _ 32 rfl w.heap.size 41 i41 (.agg #[.int .i64 0, .int .i64 0]) 2 16 Try.underlying32 hi41 ha0 ha1 ha2 rfl (by decide) _ _ _ rfl Hsp1.out ⟨ve.heap.size, 0, none⟩ 1 1 [.int .i64 (F : Int), .int .i64 (M : Int)] rfl rfl hnw (by simp [Value.oneCell']) (by unfold maxLen; omega) (by omega) Hbe1.out.size ?_; clear hfst hnw; intro v1 w5 hown1 hgrow1 _; obtain ⟨la2, lc2, rfl⟩ := slice_of (by omega) hown1; have Hw1 : Hid _ := hown1; have Hg1 : Hid _ := hgrow1; clear hown1 hgrow1)
              | (refine wpList_append_own _ rfl _ _ 33 rfl w.heap.size 3 i3 (.int .i64 0) 1 8 Try.underlying33 hi3 hd0 hd1 hd2 rfl (by decide) _ _ _ rfl (ownsRow_on (grown_row Hsp1.out Hg1.out Hns1.out (by decide)) ((Below.refl _ _).alloc (Nat.le_refl _) _)) ⟨w5.heap.size, 0, none⟩ 1 1 [.int .i64 (N : Int)] rfl rfl (int_one w5 (N : Int)) (by simp [Value.oneCell']) (by unfold maxLen; omega) (by omega) (by have := Hg1.out.size; have := Hbe1.out.size; simp; omega) ?_; intro v2 w6 hown2 hgrow2 _; obtain ⟨na2, nc2, rfl⟩ := slice_of (by omega) hown2; have HJ : Hid (Hm w bs tb xb F M i la2 lc2 na2 nc2 w6) := HMk.out la2 lc2 w5 na2 nc2 w6 Hw1.out Hg1.out hown2 hgrow2; have HX0 : Hid (w6.cell? ⟨xb, 0, none⟩ = some (.int .i64 (F : Int))) := (cell_of_row w6 _ 0 _ 41 (0, 0) HJ.out.box).trans rfl; have HX1 : Hid (w6.cell? ⟨xb, 1, none⟩ = some (.int .i64 (M : Int))) := (cell_of_row w6 _ 1 _ 41 (0, 0) HJ.out.box).trans rfl; have q0 := HX0.out; have q1 := HX1.out; clear hown2 hgrow2))
            clear q0 q1 Hw1 Hg1
            refine region_L (fun w' => Below w6.heap.size w6 w') 22 (by kernel_rfl) ?_
            have HBz : Hid (Below w6.heap.size w6 w6.drew) := (Below.refl _ _).drew
            have HJd : Hid (Hm w bs tb xb F M i la2 lc2 na2 nc2 w6.drew) := HJ.out.drewN 1
            generalize w6.drew = va at *
            have hHeld : (fun w' => Below w6.heap.size w6 w') _ := HBz.out
            have hne : Nonempty (Sub (fun w' => Below w6.heap.size w6 w')) := ⟨⟨_, hHeld⟩⟩
            have k0 : ∀ s : Sub (fun w' => Below w6.heap.size w6 w'), s.w.cell? ⟨xb, 0, none⟩ = some (.int .i64 (F : Int)) := fun s => cell_below HX0.out s.ok
            have k1 : ∀ s : Sub (fun w' => Below w6.heap.size w6 w'), s.w.cell? ⟨xb, 1, none⟩ = some (.int .i64 (M : Int)) := fun s => cell_below HX1.out s.ok
            refine take_N (i := 0) rfl (by kernel_rfl) (by kernel_rfl) (by kernel_rfl) (by rfl) (fun _ _ _ _ h => h) (by exact hHeld) (fun K hK => ?_)
            go_simp
            refine hK _ ?_
            clear hK K
            refine take_N (i := 1) rfl (by kernel_rfl) (by kernel_rfl) (by kernel_rfl) (by rfl) (fun _ _ _ _ h => h) (by exact hHeld) (fun K hK => ?_)
            go_simp
            refine hK _ ?_
            clear hK K
            refine take_N (i := 2) rfl (by kernel_rfl) (by kernel_rfl) (by kernel_rfl) (by rfl) (fun _ _ _ _ h => h) (by exact hHeld) (fun K hK => ?_)
            go_simp
            refine hK _ ?_
            clear hK K
            refine take_N (i := 3) rfl (by kernel_rfl) (by kernel_rfl) (by kernel_rfl) (by rfl) (fun _ _ _ _ h => h) (by exact hHeld) (fun K hK => ?_)
            go_simp
            refine hK _ ?_
            clear hK K
            refine take_N (i := 4) rfl (by kernel_rfl) (by kernel_rfl) (by kernel_rfl) (by rfl) (fun _ _ _ _ h => h) (by exact hHeld) (fun K hK => ?_)
            go_simp
            refine hK _ ?_
            clear hK K
            refine take_N (i := 5) rfl (by kernel_rfl) (by kernel_rfl) (by kernel_rfl) (by rfl) (fun _ _ _ _ h => h) (by exact hHeld) (fun K hK => ?_)
            go_simp
            refine hK _ ?_
            clear hK K
            refine take_N (i := 6) rfl (by kernel_rfl) (by kernel_rfl) (by kernel_rfl) (by rfl) (fun _ _ _ _ h => h) (by exact hHeld) (fun K hK => ?_)
            go_simp
            refine hK _ ?_
            clear hK K
            refine take_N (i := 7) rfl (by kernel_rfl) (by kernel_rfl) (by kernel_rfl) (by rfl) (fun _ _ _ _ h => h) (by exact hHeld) (fun K hK => ?_)
            go_simp
            refine hK _ ?_
            clear hK K
            refine take_N (i := 8) rfl (by kernel_rfl) (by kernel_rfl) (by kernel_rfl) (by rfl) (fun _ _ _ _ h => h) (by exact hHeld) (fun K hK => ?_)
            go_simp
            refine hK _ ?_
            clear hK K
            refine take_N (i := 9) rfl (by kernel_rfl) (by kernel_rfl) (by kernel_rfl) (by rfl) (fun _ _ _ _ h => h) (by exact hHeld) (fun K hK => ?_)
            go_simp
            refine hK _ ?_
            clear hK K
            refine take_N (i := 10) rfl (by kernel_rfl) (by kernel_rfl) (by kernel_rfl) (by rfl) (fun _ _ _ _ h => h) (by exact hHeld) (fun K hK => ?_)
            go_simp
            refine hK _ ?_
            clear hK K
            refine take_N (i := 11) rfl (by kernel_rfl) (by kernel_rfl) (by kernel_rfl) (by rfl) (fun _ _ _ _ h => h) (by exact hHeld) (fun K hK => ?_)
            go_simp
            refine hK _ ?_
            clear hK K
            refine take_N (i := 12) rfl (by kernel_rfl) (by kernel_rfl) (by kernel_rfl) (by rfl) (fun _ _ _ _ h => h) (by exact hHeld) (fun K hK => ?_)
            go_simp
            refine hK _ ?_
            clear hK K
            refine take_N (i := 13) rfl (by kernel_rfl) (by kernel_rfl) (by kernel_rfl) (by rfl) (fun _ _ _ _ h => h) (by exact hHeld) (fun K hK => ?_)
            go_simp
            refine hK _ ?_
            clear hK K
            refine take_N (i := 14) rfl (by kernel_rfl) (by kernel_rfl) (by kernel_rfl) (by rfl) (fun _ _ _ _ h => h) (by exact hHeld) (fun K hK => ?_)
            go_simp
            refine hK _ ?_
            clear hK K
            refine take_N (i := 15) rfl (by kernel_rfl) (by kernel_rfl) (by kernel_rfl) (by rfl) (fun _ _ _ _ h => h) (by exact hHeld) (fun K hK => ?_)
            go_simp
            refine hK _ ?_
            clear hK K
            refine take_N (i := 16) rfl (by kernel_rfl) (by kernel_rfl) (by kernel_rfl) (by rfl) (fun _ _ _ _ h => h) (by exact hHeld) (fun K hK => ?_)
            go_simp
            refine hK _ ?_
            clear hK K
            refine take_N (i := 17) rfl (by kernel_rfl) (by kernel_rfl) (by kernel_rfl) (by rfl) (fun _ _ _ _ h => h) (by exact hHeld) (fun K hK => ?_)
            go_simp
            refine hK _ ?_
            clear hK K
            refine take_N (i := 18) rfl (by kernel_rfl) (by kernel_rfl) (by kernel_rfl) (by rfl) (fun _ _ _ _ h => h) (by exact hHeld) (fun K hK => ?_)
            go_simp
            refine hK _ ?_
            clear hK K
            refine take_N (i := 19) rfl (by kernel_rfl) (by kernel_rfl) (by kernel_rfl) (by rfl) (fun _ _ _ _ h => h) (by exact hHeld) (fun K hK => ?_)
            go_simp
            refine hK _ ?_
            clear hK K
            refine take_N (i := 20) rfl (by kernel_rfl) (by kernel_rfl) (by kernel_rfl) (by rfl) (fun _ _ _ _ h => h) (by exact hHeld) (fun K hK => ?_)
            go_simp
            refine hK _ ?_
            clear hK K
            refine take_N (i := 21) rfl (by kernel_rfl) (by kernel_rfl) (by kernel_rfl) (by rfl) (fun _ _ _ _ h => h) (by exact hHeld) (fun K hK => ?_)
            go_simp
            refine hK _ ?_
            clear hK K
            refine done_L (by kernel_rfl) ?_ _
            have R := HNo.out va HJd.out.bel (fun h => by
              have hZ := HZ.out
              have he := h.ok _ (List.getElem_mem hil)
              rw [Hent.out] at he
              have hnd := Hnd.out
              rcases he with he | he
              · simp only [Prod.mk.injEq] at he
                omega
              · simp only at he
                omega)
            clear hHeld hne k0 k1 HP HNo
            go_wp2
            exact bodyPost_ret (results_tmp3 (t := 2) (u := 3) (v := 4) rfl _ _ _) rfl R
        · have e1 : ((N : Int) == 0) = false := by simp; omega
          by_cases hMn : M = nd
          · have e4 : ((M : Int) == (nd : Int)) = true := by rw [hMn]; simp
            have e5 : ((M : Int) != (nd : Int)) = false := by rw [hMn]; simp
            by_cases hF2 : F < 2
            · skip
              have e6 : decide ((F : Int) < 2) = true := decide_eq_true (by omega)
              have e6' : (F : Int) < 2 := by omega
              have HZ : Hid (N ≠ 0 ∧ F < 2) := ⟨hN0, hF2⟩
              clear hN0 hF2 hMn hz
              go_wp2_with (at_builtin; first
                | (refine wpList_append_own _ rfl _ _ 32 rfl w.heap.size 41 i41 (.agg #[.int .i64 0, .int .i64 0]) 2 16 Try.underlying32 hi41 ha0 ha1 ha2 rfl (by decide) _ _ _ rfl Hsp1.out ⟨ve.heap.size, 0, none⟩ 1 1 [.int .i64 (F : Int), .int .i64 (M : Int)] rfl rfl hnw (by simp [Value.oneCell']) (by unfold maxLen; omega) (by omega) Hbe1.out.size ?_; clear hfst hnw; intro v1 w5 hown1 hgrow1 _; obtain ⟨la2, lc2, rfl⟩ := slice_of (by omega) hown1; have Hw1 : Hid _ := hown1; have Hg1 : Hid _ := hgrow1; clear hown1 hgrow1)
                | (refine wpList_append_own _ rfl _ _ 33 rfl w.heap.size 3 i3 (.int .i64 0) 1 8 Try.underlying33 hi3 hd0 hd1 hd2 rfl (by decide) _ _ _ rfl (ownsRow_on (grown_row Hsp1.out Hg1.out Hns1.out (by decide)) ((Below.refl _ _).alloc (Nat.le_refl _) _)) ⟨w5.heap.size, 0, none⟩ 1 1 [.int .i64 (N : Int)] rfl rfl (int_one w5 (N : Int)) (by simp [Value.oneCell']) (by unfold maxLen; omega) (by omega) (by have := Hg1.out.size; have := Hbe1.out.size; simp; omega) ?_; intro v2 w6 hown2 hgrow2 _; obtain ⟨na2, nc2, rfl⟩ := slice_of (by omega) hown2; have HJ : Hid (Hm w bs tb xb F M i la2 lc2 na2 nc2 w6) := HMk.out la2 lc2 w5 na2 nc2 w6 Hw1.out Hg1.out hown2 hgrow2; have HX0 : Hid (w6.cell? ⟨xb, 0, none⟩ = some (.int .i64 (F : Int))) := (cell_of_row w6 _ 0 _ 41 (0, 0) HJ.out.box).trans rfl; have HX1 : Hid (w6.cell? ⟨xb, 1, none⟩ = some (.int .i64 (M : Int))) := (cell_of_row w6 _ 1 _ 41 (0, 0) HJ.out.box).trans rfl; have q0 := HX0.out; have q1 := HX1.out; clear hown2 hgrow2))
              clear q0 q1 Hw1 Hg1
              refine region_L (fun w' => Below w6.heap.size w6 w') 22 (by kernel_rfl) ?_
              have HBz : Hid (Below w6.heap.size w6 w6.drew) := (Below.refl _ _).drew
              have HJd : Hid (Hm w bs tb xb F M i la2 lc2 na2 nc2 w6.drew) := HJ.out.drewN 1
              generalize w6.drew = va at *
              have hHeld : (fun w' => Below w6.heap.size w6 w') _ := HBz.out
              have hne : Nonempty (Sub (fun w' => Below w6.heap.size w6 w')) := ⟨⟨_, hHeld⟩⟩
              have k0 : ∀ s : Sub (fun w' => Below w6.heap.size w6 w'), s.w.cell? ⟨xb, 0, none⟩ = some (.int .i64 (F : Int)) := fun s => cell_below HX0.out s.ok
              have k1 : ∀ s : Sub (fun w' => Below w6.heap.size w6 w'), s.w.cell? ⟨xb, 1, none⟩ = some (.int .i64 (M : Int)) := fun s => cell_below HX1.out s.ok
              refine take_N (i := 0) rfl (by kernel_rfl) (by kernel_rfl) (by kernel_rfl) (by rfl) (fun _ _ _ _ h => h) (by exact hHeld) (fun K hK => ?_)
              go_simp
              refine hK _ ?_
              clear hK K
              refine take_N (i := 1) rfl (by kernel_rfl) (by kernel_rfl) (by kernel_rfl) (by rfl) (fun _ _ _ _ h => h) (by exact hHeld) (fun K hK => ?_)
              go_simp
              refine hK _ ?_
              clear hK K
              refine take_N (i := 2) rfl (by kernel_rfl) (by kernel_rfl) (by kernel_rfl) (by rfl) (fun _ _ _ _ h => h) (by exact hHeld) (fun K hK => ?_)
              go_simp
              refine hK _ ?_
              clear hK K
              refine take_N (i := 3) rfl (by kernel_rfl) (by kernel_rfl) (by kernel_rfl) (by rfl) (fun _ _ _ _ h => h) (by exact hHeld) (fun K hK => ?_)
              go_simp
              refine hK _ ?_
              clear hK K
              refine take_N (i := 4) rfl (by kernel_rfl) (by kernel_rfl) (by kernel_rfl) (by rfl) (fun _ _ _ _ h => h) (by exact hHeld) (fun K hK => ?_)
              go_simp
              refine hK _ ?_
              clear hK K
              refine take_N (i := 5) rfl (by kernel_rfl) (by kernel_rfl) (by kernel_rfl) (by rfl) (fun _ _ _ _ h => h) (by exact hHeld) (fun K hK => ?_)
              go_simp
              refine hK _ ?_
              clear hK K
              refine one_L (i := 6) (by kernel_rfl) rfl (fun K hK => ?_)
              go_simp
              refine (rneed_c (N : Int) (by unfold I64; omega) _).mono ?_
              rintro _ vc ⟨rfl, hvc⟩
              replace hvc := hvc.symm
              subst hvc
              rw [needI_nat, ← Hnd.out]
              replace hHeld : (fun w' => Below w6.heap.size w6 w') _ := hHeld
              refine hK.out _ _ (fun _ => hHeld) ?_
              clear hK K
              refine take_N (i := 7) rfl (by kernel_rfl) (by kernel_rfl) (by kernel_rfl) (by rfl) (fun _ _ _ _ h => h) (by exact hHeld) (fun K hK => ?_)
              go_simp
              refine hK _ ?_
              clear hK K
              refine take_N (i := 8) rfl (by kernel_rfl) (by kernel_rfl) (by kernel_rfl) (by rfl) (fun _ _ _ _ h => h) (by exact hHeld) (fun K hK => ?_)
              go_simp
              refine hK _ ?_
              clear hK K
              refine take_N (i := 9) rfl (by kernel_rfl) (by kernel_rfl) (by kernel_rfl) (by rfl) (fun _ _ _ _ h => h) (by exact hHeld) (fun K hK => ?_)
              go_simp
              refine hK _ ?_
              clear hK K
              refine take_N (i := 10) rfl (by kernel_rfl) (by kernel_rfl) (by kernel_rfl) (by rfl) (fun _ _ _ _ h => h) (by exact hHeld) (fun K hK => ?_)
              go_simp
              refine hK _ ?_
              clear hK K
              refine take_N (i := 11) rfl (by kernel_rfl) (by kernel_rfl) (by kernel_rfl) (by rfl) (fun _ _ _ _ h => h) (by exact hHeld) (fun K hK => ?_)
              go_simp
              refine hK _ ?_
              clear hK K
              refine take_N (i := 12) rfl (by kernel_rfl) (by kernel_rfl) (by kernel_rfl) (by rfl) (fun _ _ _ _ h => h) (by exact hHeld) (fun K hK => ?_)
              go_simp
              refine hK _ ?_
              clear hK K
              refine take_N (i := 13) rfl (by kernel_rfl) (by kernel_rfl) (by kernel_rfl) (by rfl) (fun _ _ _ _ h => h) (by exact hHeld) (fun K hK => ?_)
              go_simp
              refine hK _ ?_
              clear hK K
              refine take_N (i := 14) rfl (by kernel_rfl) (by kernel_rfl) (by kernel_rfl) (by rfl) (fun _ _ _ _ h => h) (by exact hHeld) (fun K hK => ?_)
              go_simp
              refine hK _ ?_
              clear hK K
              refine take_N (i := 15) rfl (by kernel_rfl) (by kernel_rfl) (by kernel_rfl) (by rfl) (fun _ _ _ _ h => h) (by exact hHeld) (fun K hK => ?_)
              go_simp
              refine hK _ ?_
              clear hK K
              refine take_N (i := 16) rfl (by kernel_rfl) (by kernel_rfl) (by kernel_rfl) (by rfl) (fun _ _ _ _ h => h) (by exact hHeld) (fun K hK => ?_)
              go_simp
              refine hK _ ?_
              clear hK K
              refine take_N (i := 17) rfl (by kernel_rfl) (by kernel_rfl) (by kernel_rfl) (by rfl) (fun _ _ _ _ h => h) (by exact hHeld) (fun K hK => ?_)
              go_simp
              refine hK _ ?_
              clear hK K
              refine take_N (i := 18) rfl (by kernel_rfl) (by kernel_rfl) (by kernel_rfl) (by rfl) (fun _ _ _ _ h => h) (by exact hHeld) (fun K hK => ?_)
              go_simp
              refine hK _ ?_
              clear hK K
              refine take_N (i := 19) rfl (by kernel_rfl) (by kernel_rfl) (by kernel_rfl) (by rfl) (fun _ _ _ _ h => h) (by exact hHeld) (fun K hK => ?_)
              go_simp
              refine hK _ ?_
              clear hK K
              refine take_N (i := 20) rfl (by kernel_rfl) (by kernel_rfl) (by kernel_rfl) (by rfl) (fun _ _ _ _ h => h) (by exact hHeld) (fun K hK => ?_)
              go_simp
              refine hK _ ?_
              clear hK K
              refine take_N (i := 21) rfl (by kernel_rfl) (by kernel_rfl) (by kernel_rfl) (by rfl) (fun _ _ _ _ h => h) (by exact hHeld) (fun K hK => ?_)
              go_simp
              refine hK _ ?_
              clear hK K
              refine done_L (by kernel_rfl) ?_ _
              have R := HNo.out va HJd.out.bel (fun h => by
                have hZ := HZ.out
                have he := h.ok _ (List.getElem_mem hil)
                rw [Hent.out] at he
                have hnd := Hnd.out
                rcases he with he | he
                · simp only [Prod.mk.injEq] at he
                  omega
                · simp only at he
                  omega)
              clear hHeld hne k0 k1 HP HNo
              go_wp2
              exact bodyPost_ret (results_tmp3 (t := 2) (u := 3) (v := 4) rfl _ _ _) rfl R
            · by_cases hFM : 40 < F + M
              · skip
                have e6 : decide ((F : Int) < 2) = false := decide_eq_false (by omega)
                have e6' : ¬ (F : Int) < 2 := by omega
                obtain ⟨FM, hFM0⟩ : ∃ FM, FM = F + M := ⟨_, rfl⟩
                have wFM : IntKind.i64.wrap ((F : Int) + (M : Int)) = (FM : Int) := by rw [IntKind.wrap_i64]; omega
                have e7 : decide (40 < (FM : Int)) = true := decide_eq_true (by omega)
                have e7' : 40 < (FM : Int) := by omega
                have HZ : Hid (N ≠ 0 ∧ 40 < F + M) := ⟨hN0, hFM⟩
                clear hN0 hF2 hMn hz hFM hFM0
                go_wp2_with (at_builtin; first
                  | (refine wpList_append_own _ rfl _ _ 32 rfl w.heap.size 41 i41 (.agg #[.int .i64 0, .int .i64 0]) 2 16 Try.underlying32 hi41 ha0 ha1 ha2 rfl (by decide) _ _ _ rfl Hsp1.out ⟨ve.heap.size, 0, none⟩ 1 1 [.int .i64 (F : Int), .int .i64 (M : Int)] rfl rfl hnw (by simp [Value.oneCell']) (by unfold maxLen; omega) (by omega) Hbe1.out.size ?_; clear hfst hnw; intro v1 w5 hown1 hgrow1 _; obtain ⟨la2, lc2, rfl⟩ := slice_of (by omega) hown1; have Hw1 : Hid _ := hown1; have Hg1 : Hid _ := hgrow1; clear hown1 hgrow1)
                  | (refine wpList_append_own _ rfl _ _ 33 rfl w.heap.size 3 i3 (.int .i64 0) 1 8 Try.underlying33 hi3 hd0 hd1 hd2 rfl (by decide) _ _ _ rfl (ownsRow_on (grown_row Hsp1.out Hg1.out Hns1.out (by decide)) ((Below.refl _ _).alloc (Nat.le_refl _) _)) ⟨w5.heap.size, 0, none⟩ 1 1 [.int .i64 (N : Int)] rfl rfl (int_one w5 (N : Int)) (by simp [Value.oneCell']) (by unfold maxLen; omega) (by omega) (by have := Hg1.out.size; have := Hbe1.out.size; simp; omega) ?_; intro v2 w6 hown2 hgrow2 _; obtain ⟨na2, nc2, rfl⟩ := slice_of (by omega) hown2; have HJ : Hid (Hm w bs tb xb F M i la2 lc2 na2 nc2 w6) := HMk.out la2 lc2 w5 na2 nc2 w6 Hw1.out Hg1.out hown2 hgrow2; have HX0 : Hid (w6.cell? ⟨xb, 0, none⟩ = some (.int .i64 (F : Int))) := (cell_of_row w6 _ 0 _ 41 (0, 0) HJ.out.box).trans rfl; have HX1 : Hid (w6.cell? ⟨xb, 1, none⟩ = some (.int .i64 (M : Int))) := (cell_of_row w6 _ 1 _ 41 (0, 0) HJ.out.box).trans rfl; have q0 := HX0.out; have q1 := HX1.out; clear hown2 hgrow2))
                clear q0 q1 Hw1 Hg1
                refine region_L (fun w' => Below w6.heap.size w6 w') 22 (by kernel_rfl) ?_
                have HBz : Hid (Below w6.heap.size w6 w6.drew) := (Below.refl _ _).drew
                have HJd : Hid (Hm w bs tb xb F M i la2 lc2 na2 nc2 w6.drew) := HJ.out.drewN 1
                generalize w6.drew = va at *
                have hHeld : (fun w' => Below w6.heap.size w6 w') _ := HBz.out
                have hne : Nonempty (Sub (fun w' => Below w6.heap.size w6 w')) := ⟨⟨_, hHeld⟩⟩
                have k0 : ∀ s : Sub (fun w' => Below w6.heap.size w6 w'), s.w.cell? ⟨xb, 0, none⟩ = some (.int .i64 (F : Int)) := fun s => cell_below HX0.out s.ok
                have k1 : ∀ s : Sub (fun w' => Below w6.heap.size w6 w'), s.w.cell? ⟨xb, 1, none⟩ = some (.int .i64 (M : Int)) := fun s => cell_below HX1.out s.ok
                refine take_N (i := 0) rfl (by kernel_rfl) (by kernel_rfl) (by kernel_rfl) (by rfl) (fun _ _ _ _ h => h) (by exact hHeld) (fun K hK => ?_)
                go_simp
                refine hK _ ?_
                clear hK K
                refine take_N (i := 1) rfl (by kernel_rfl) (by kernel_rfl) (by kernel_rfl) (by rfl) (fun _ _ _ _ h => h) (by exact hHeld) (fun K hK => ?_)
                go_simp
                refine hK _ ?_
                clear hK K
                refine take_N (i := 2) rfl (by kernel_rfl) (by kernel_rfl) (by kernel_rfl) (by rfl) (fun _ _ _ _ h => h) (by exact hHeld) (fun K hK => ?_)
                go_simp
                refine hK _ ?_
                clear hK K
                refine take_N (i := 3) rfl (by kernel_rfl) (by kernel_rfl) (by kernel_rfl) (by rfl) (fun _ _ _ _ h => h) (by exact hHeld) (fun K hK => ?_)
                go_simp
                refine hK _ ?_
                clear hK K
                refine take_N (i := 4) rfl (by kernel_rfl) (by kernel_rfl) (by kernel_rfl) (by rfl) (fun _ _ _ _ h => h) (by exact hHeld) (fun K hK => ?_)
                go_simp
                refine hK _ ?_
                clear hK K
                refine take_N (i := 5) rfl (by kernel_rfl) (by kernel_rfl) (by kernel_rfl) (by rfl) (fun _ _ _ _ h => h) (by exact hHeld) (fun K hK => ?_)
                go_simp
                refine hK _ ?_
                clear hK K
                refine one_L (i := 6) (by kernel_rfl) rfl (fun K hK => ?_)
                go_simp
                refine (rneed_c (N : Int) (by unfold I64; omega) _).mono ?_
                rintro _ vc ⟨rfl, hvc⟩
                replace hvc := hvc.symm
                subst hvc
                rw [needI_nat, ← Hnd.out]
                replace hHeld : (fun w' => Below w6.heap.size w6 w') _ := hHeld
                refine hK.out _ _ (fun _ => hHeld) ?_
                clear hK K
                refine take_N (i := 7) rfl (by kernel_rfl) (by kernel_rfl) (by kernel_rfl) (by rfl) (fun _ _ _ _ h => h) (by exact hHeld) (fun K hK => ?_)
                go_simp
                refine hK _ ?_
                clear hK K
                refine take_N (i := 8) rfl (by kernel_rfl) (by kernel_rfl) (by kernel_rfl) (by rfl) (fun _ _ _ _ h => h) (by exact hHeld) (fun K hK => ?_)
                go_simp
                refine hK _ ?_
                clear hK K
                refine take_N (i := 9) rfl (by kernel_rfl) (by kernel_rfl) (by kernel_rfl) (by rfl) (fun _ _ _ _ h => h) (by exact hHeld) (fun K hK => ?_)
                go_simp
                refine hK _ ?_
                clear hK K
                refine take_N (i := 10) rfl (by kernel_rfl) (by kernel_rfl) (by kernel_rfl) (by rfl) (fun _ _ _ _ h => h) (by exact hHeld) (fun K hK => ?_)
                go_simp
                refine hK _ ?_
                clear hK K
                refine take_N (i := 11) rfl (by kernel_rfl) (by kernel_rfl) (by kernel_rfl) (by rfl) (fun _ _ _ _ h => h) (by exact hHeld) (fun K hK => ?_)
                go_simp
                refine hK _ ?_
                clear hK K
                refine take_N (i := 12) rfl (by kernel_rfl) (by kernel_rfl) (by kernel_rfl) (by rfl) (fun _ _ _ _ h => h) (by exact hHeld) (fun K hK => ?_)
                go_simp
                refine hK _ ?_
                clear hK K
                refine take_N (i := 13) rfl (by kernel_rfl) (by kernel_rfl) (by kernel_rfl) (by rfl) (fun _ _ _ _ h => h) (by exact hHeld) (fun K hK => ?_)
                go_simp
                refine hK _ ?_
                clear hK K
                refine take_N (i := 14) rfl (by kernel_rfl) (by kernel_rfl) (by kernel_rfl) (by rfl) (fun _ _ _ _ h => h) (by exact hHeld) (fun K hK => ?_)
                go_simp
                refine hK _ ?_
                clear hK K
                refine take_N (i := 15) rfl (by kernel_rfl) (by kernel_rfl) (by kernel_rfl) (by rfl) (fun _ _ _ _ h => h) (by exact hHeld) (fun K hK => ?_)
                go_simp
                refine hK _ ?_
                clear hK K
                refine take_N (i := 16) rfl (by kernel_rfl) (by kernel_rfl) (by kernel_rfl) (by rfl) (fun _ _ _ _ h => h) (by exact hHeld) (fun K hK => ?_)
                go_simp
                refine hK _ ?_
                clear hK K
                refine take_N (i := 17) rfl (by kernel_rfl) (by kernel_rfl) (by kernel_rfl) (by rfl) (fun _ _ _ _ h => h) (by exact hHeld) (fun K hK => ?_)
                go_simp
                refine hK _ ?_
                clear hK K
                refine take_N (i := 18) rfl (by kernel_rfl) (by kernel_rfl) (by kernel_rfl) (by rfl) (fun _ _ _ _ h => h) (by exact hHeld) (fun K hK => ?_)
                go_simp
                refine hK _ ?_
                clear hK K
                refine take_N (i := 19) rfl (by kernel_rfl) (by kernel_rfl) (by kernel_rfl) (by rfl) (fun _ _ _ _ h => h) (by exact hHeld) (fun K hK => ?_)
                go_simp
                refine hK _ ?_
                clear hK K
                refine take_N (i := 20) rfl (by kernel_rfl) (by kernel_rfl) (by kernel_rfl) (by rfl) (fun _ _ _ _ h => h) (by exact hHeld) (fun K hK => ?_)
                go_simp
                refine hK _ ?_
                clear hK K
                refine take_N (i := 21) rfl (by kernel_rfl) (by kernel_rfl) (by kernel_rfl) (by rfl) (fun _ _ _ _ h => h) (by exact hHeld) (fun K hK => ?_)
                go_simp
                refine hK _ ?_
                clear hK K
                refine done_L (by kernel_rfl) ?_ _
                have R := HNo.out va HJd.out.bel (fun h => by
                  have hZ := HZ.out
                  have he := h.ok _ (List.getElem_mem hil)
                  rw [Hent.out] at he
                  have hnd := Hnd.out
                  rcases he with he | he
                  · simp only [Prod.mk.injEq] at he
                    omega
                  · simp only at he
                    omega)
                clear hHeld hne k0 k1 HP HNo
                go_wp2
                exact bodyPost_ret (results_tmp3 (t := 2) (u := 3) (v := 4) rfl _ _ _) rfl R
              · skip
                obtain ⟨FM, hFM0⟩ : ∃ FM, FM = F + M := ⟨_, rfl⟩
                have e6 : decide ((F : Int) < 2) = false := decide_eq_false (by omega)
                have e6' : ¬ (F : Int) < 2 := by omega
                have wFM : IntKind.i64.wrap ((F : Int) + (M : Int)) = (FM : Int) := by rw [IntKind.wrap_i64]; omega
                have e7 : decide (40 < (FM : Int)) = false := decide_eq_false (by omega)
                have e7' : ¬ 40 < (FM : Int) := by omega
                have HZ : Hid (N ≠ 0 ∧ 2 ≤ F ∧ F + M ≤ 40 ∧ M = nd) := ⟨hN0, by omega, by omega, hMn⟩
                have hFM1 : F + M ≤ 40 := by omega
                clear hN0 hF2 hMn hz hFM hFM0
                go_wp2_with (at_builtin; first
                  | (refine wpList_append_own _ rfl _ _ 32 rfl w.heap.size 41 i41 (.agg #[.int .i64 0, .int .i64 0]) 2 16 Try.underlying32 hi41 ha0 ha1 ha2 rfl (by decide) _ _ _ rfl Hsp1.out ⟨ve.heap.size, 0, none⟩ 1 1 [.int .i64 (F : Int), .int .i64 (M : Int)] rfl rfl hnw (by simp [Value.oneCell']) (by unfold maxLen; omega) (by omega) Hbe1.out.size ?_; clear hfst hnw; intro v1 w5 hown1 hgrow1 _; obtain ⟨la2, lc2, rfl⟩ := slice_of (by omega) hown1; have Hw1 : Hid _ := hown1; have Hg1 : Hid _ := hgrow1; clear hown1 hgrow1)
                  | (refine wpList_append_own _ rfl _ _ 33 rfl w.heap.size 3 i3 (.int .i64 0) 1 8 Try.underlying33 hi3 hd0 hd1 hd2 rfl (by decide) _ _ _ rfl (ownsRow_on (grown_row Hsp1.out Hg1.out Hns1.out (by decide)) ((Below.refl _ _).alloc (Nat.le_refl _) _)) ⟨w5.heap.size, 0, none⟩ 1 1 [.int .i64 (N : Int)] rfl rfl (int_one w5 (N : Int)) (by simp [Value.oneCell']) (by unfold maxLen; omega) (by omega) (by have := Hg1.out.size; have := Hbe1.out.size; simp; omega) ?_; intro v2 w6 hown2 hgrow2 _; obtain ⟨na2, nc2, rfl⟩ := slice_of (by omega) hown2; have HJ : Hid (Hm w bs tb xb F M i la2 lc2 na2 nc2 w6) := HMk.out la2 lc2 w5 na2 nc2 w6 Hw1.out Hg1.out hown2 hgrow2; have HX0 : Hid (w6.cell? ⟨xb, 0, none⟩ = some (.int .i64 (F : Int))) := (cell_of_row w6 _ 0 _ 41 (0, 0) HJ.out.box).trans rfl; have HX1 : Hid (w6.cell? ⟨xb, 1, none⟩ = some (.int .i64 (M : Int))) := (cell_of_row w6 _ 1 _ 41 (0, 0) HJ.out.box).trans rfl; have q0 := HX0.out; have q1 := HX1.out; clear hown2 hgrow2))
                clear q0 q1 Hw1 Hg1
                refine region_L (fun w' => Below w6.heap.size w6 w') 22 (by kernel_rfl) ?_
                have HBz : Hid (Below w6.heap.size w6 w6.drew) := (Below.refl _ _).drew
                have HJd : Hid (Hm w bs tb xb F M i la2 lc2 na2 nc2 w6.drew) := HJ.out.drewN 1
                generalize w6.drew = va at *
                have hHeld : (fun w' => Below w6.heap.size w6 w') _ := HBz.out
                have hne : Nonempty (Sub (fun w' => Below w6.heap.size w6 w')) := ⟨⟨_, hHeld⟩⟩
                have k0 : ∀ s : Sub (fun w' => Below w6.heap.size w6 w'), s.w.cell? ⟨xb, 0, none⟩ = some (.int .i64 (F : Int)) := fun s => cell_below HX0.out s.ok
                have k1 : ∀ s : Sub (fun w' => Below w6.heap.size w6 w'), s.w.cell? ⟨xb, 1, none⟩ = some (.int .i64 (M : Int)) := fun s => cell_below HX1.out s.ok
                refine take_N (i := 0) rfl (by kernel_rfl) (by kernel_rfl) (by kernel_rfl) (by rfl) (fun _ _ _ _ h => h) (by exact hHeld) (fun K hK => ?_)
                go_simp
                refine hK _ ?_
                clear hK K
                refine take_N (i := 1) rfl (by kernel_rfl) (by kernel_rfl) (by kernel_rfl) (by rfl) (fun _ _ _ _ h => h) (by exact hHeld) (fun K hK => ?_)
                go_simp
                refine hK _ ?_
                clear hK K
                refine take_N (i := 2) rfl (by kernel_rfl) (by kernel_rfl) (by kernel_rfl) (by rfl) (fun _ _ _ _ h => h) (by exact hHeld) (fun K hK => ?_)
                go_simp
                refine hK _ ?_
                clear hK K
                refine take_N (i := 3) rfl (by kernel_rfl) (by kernel_rfl) (by kernel_rfl) (by rfl) (fun _ _ _ _ h => h) (by exact hHeld) (fun K hK => ?_)
                go_simp
                refine hK _ ?_
                clear hK K
                refine take_N (i := 4) rfl (by kernel_rfl) (by kernel_rfl) (by kernel_rfl) (by rfl) (fun _ _ _ _ h => h) (by exact hHeld) (fun K hK => ?_)
                go_simp
                refine hK _ ?_
                clear hK K
                refine take_N (i := 5) rfl (by kernel_rfl) (by kernel_rfl) (by kernel_rfl) (by rfl) (fun _ _ _ _ h => h) (by exact hHeld) (fun K hK => ?_)
                go_simp
                refine hK _ ?_
                clear hK K
                refine one_L (i := 6) (by kernel_rfl) rfl (fun K hK => ?_)
                go_simp
                refine (rneed_c (N : Int) (by unfold I64; omega) _).mono ?_
                rintro _ vc ⟨rfl, hvc⟩
                replace hvc := hvc.symm
                subst hvc
                rw [needI_nat, ← Hnd.out]
                replace hHeld : (fun w' => Below w6.heap.size w6 w') _ := hHeld
                refine hK.out _ _ (fun _ => hHeld) ?_
                clear hK K
                refine take_N (i := 7) rfl (by kernel_rfl) (by kernel_rfl) (by kernel_rfl) (by rfl) (fun _ _ _ _ h => h) (by exact hHeld) (fun K hK => ?_)
                go_simp
                refine hK _ ?_
                clear hK K
                refine take_N (i := 8) rfl (by kernel_rfl) (by kernel_rfl) (by kernel_rfl) (by rfl) (fun _ _ _ _ h => h) (by exact hHeld) (fun K hK => ?_)
                go_simp
                refine hK _ ?_
                clear hK K
                refine take_N (i := 9) rfl (by kernel_rfl) (by kernel_rfl) (by kernel_rfl) (by rfl) (fun _ _ _ _ h => h) (by exact hHeld) (fun K hK => ?_)
                go_simp
                refine hK _ ?_
                clear hK K
                refine take_N (i := 10) rfl (by kernel_rfl) (by kernel_rfl) (by kernel_rfl) (by rfl) (fun _ _ _ _ h => h) (by exact hHeld) (fun K hK => ?_)
                go_simp
                refine hK _ ?_
                clear hK K
                refine take_N (i := 11) rfl (by kernel_rfl) (by kernel_rfl) (by kernel_rfl) (by rfl) (fun _ _ _ _ h => h) (by exact hHeld) (fun K hK => ?_)
                go_simp
                refine hK _ ?_
                clear hK K
                refine take_N (i := 12) rfl (by kernel_rfl) (by kernel_rfl) (by kernel_rfl) (by rfl) (fun _ _ _ _ h => h) (by exact hHeld) (fun K hK => ?_)
                go_simp
                refine hK _ ?_
                clear hK K
                refine take_N (i := 13) rfl (by kernel_rfl) (by kernel_rfl) (by kernel_rfl) (by rfl) (fun _ _ _ _ h => h) (by exact hHeld) (fun K hK => ?_)
                go_simp
                refine hK _ ?_
                clear hK K
                refine take_N (i := 14) rfl (by kernel_rfl) (by kernel_rfl) (by kernel_rfl) (by rfl) (fun _ _ _ _ h => h) (by exact hHeld) (fun K hK => ?_)
                go_simp
                refine hK _ ?_
                clear hK K
                refine take_N (i := 15) rfl (by kernel_rfl) (by kernel_rfl) (by kernel_rfl) (by rfl) (fun _ _ _ _ h => h) (by exact hHeld) (fun K hK => ?_)
                go_simp
                refine hK _ ?_
                clear hK K
                refine take_N (i := 16) rfl (by kernel_rfl) (by kernel_rfl) (by kernel_rfl) (by rfl) (fun _ _ _ _ h => h) (by exact hHeld) (fun K hK => ?_)
                go_simp
                refine hK _ ?_
                clear hK K
                refine take_N (i := 17) rfl (by kernel_rfl) (by kernel_rfl) (by kernel_rfl) (by rfl) (fun _ _ _ _ h => h) (by exact hHeld) (fun K hK => ?_)
                go_simp
                refine hK _ ?_
                clear hK K
                refine take_N (i := 18) rfl (by kernel_rfl) (by kernel_rfl) (by kernel_rfl) (by rfl) (fun _ _ _ _ h => h) (by exact hHeld) (fun K hK => ?_)
                go_simp
                refine hK _ ?_
                clear hK K
                refine take_N (i := 19) rfl (by kernel_rfl) (by kernel_rfl) (by kernel_rfl) (by rfl) (fun _ _ _ _ h => h) (by exact hHeld) (fun K hK => ?_)
                go_simp
                refine hK _ ?_
                clear hK K
                refine take_N (i := 20) rfl (by kernel_rfl) (by kernel_rfl) (by kernel_rfl) (by rfl) (fun _ _ _ _ h => h) (by exact hHeld) (fun K hK => ?_)
                go_simp
                refine hK _ ?_
                clear hK K
                refine take_N (i := 21) rfl (by kernel_rfl) (by kernel_rfl) (by kernel_rfl) (by rfl) (fun _ _ _ _ h => h) (by exact hHeld) (fun K hK => ?_)
                go_simp
                refine hK _ ?_
                clear hK K
                refine done_L (by kernel_rfl) ?_ _
                have HQ0 : Hid (Hq w bs tb xb F M i la2 lc2 na2 nc2 0 va) := ⟨HJd.out.sp, HJd.out.ns, by rw [tkR_zero]; exact HJd.out.tk, HJd.out.box, HJd.out.bel, fun q' h => by omega⟩
                have q0 : va.cell? ⟨xb, 0, none⟩ = some (.int .i64 (F : Int)) := (cell_of_row va _ 0 _ 41 (0, 0) HJd.out.box).trans rfl
                have Hoo : Hid ((∀ h ∈ (entS bs).take i, entOk h) ∧ ∀ j, cnt (((entS bs).take i).map (·.1)) j ≤ 1) := ⟨HJd.out.ok, HJd.out.once⟩
                clear hHeld hne k0 k1 HJ HX0 HX1 HJd HBz wFM e7 e7' e6 e6' e4 e5
                go_wp2_with fail
                clear q0
                go_loopw [11] (fun kv wr => ∃ (q : Nat), q ≤ M ∧ kv = .int .i64 ((F : Int) + (q : Int)) ∧ Hid (Hq w bs tb xb F M i la2 lc2 na2 nc2 q wr)) (fun kv _ => F + M - (intOf kv).toNat)
                case atStart => exact ⟨0, Nat.zero_le _, by simp, HQ0.out⟩
                case round =>
                  clear HQ0
                  obtain ⟨q, hq, rfl, HQ⟩ := hrel
                  have q0 : wr.cell? ⟨xb, 0, none⟩ = some (.int .i64 (F : Int)) := (cell_of_row wr _ 0 _ 41 (0, 0) HQ.out.box).trans rfl
                  have q1 : wr.cell? ⟨xb, 1, none⟩ = some (.int .i64 (M : Int)) := (cell_of_row wr _ 1 _ 41 (0, 0) HQ.out.box).trans rfl
                  by_cases hqM : q < M
                  · have hqM' : (F : Int) + (q : Int) < (F : Int) + (M : Int) := by omega
                    have hq40 : (F : Int) + (q : Int) < 40 := by omega
                    have hat := row_at HQ.out.tk (i := F + q) (by rw [tkR_len]; omega)
                    rw [tkR_at _ (by omega), cnt_here] at hat
                    by_cases hcn : 0 < cnt (((entS bs).take i).map (·.1)) (F + q)
                    · rw [decide_eq_true hcn] at hat
                      have R := HNo.out wr HQ.out.bel (fun h => by
                        have h1 := h.once (F + q)
                        have h2 := cnt_take (l := entS bs) (i + 1) (F + q)
                        have h3 : cnt [(F, M)] (F + q) = 1 := by rw [cnt_one]; unfold covers; rw [decide_eq_true (by simp only; omega)]; rfl
                        rw [Htake.out, List.map_append, cnt_append] at h2
                        simp only [List.map_cons, List.map_nil] at h2
                        rw [h3] at h2
                        omega)
                      clear HP HNo HQ
                      go_wp2
                      exact bodyPost_ret (results_tmp3 (t := 2) (u := 3) (v := 4) rfl _ _ _) rfl R
                    · rw [decide_eq_false hcn] at hat
                      have hfr : wr.frozen? ⟨tb, F + q, none⟩ = false := frozen_of_row wr _ _ _ 4 HQ.out.tk
                      have HQ' : Hid (Hq w bs tb xb F M i la2 lc2 na2 nc2 (q + 1) (wr.setCell ⟨tb, F + q, none⟩ (.bool true))) := by
                        refine ⟨row_other HQ.out.sp HQ.out.tk (by decide), row_other HQ.out.ns HQ.out.tk (by decide), ?_, (Below.heap_setCell wr ⟨tb, F + q, none⟩ _ xb (fun e => Hxt.out e.symm)).trans HQ.out.box, HQ.out.bel.setCell (p := ⟨tb, F + q, none⟩) (by have := Htb.out; simp only; omega) _, fun q' h => ?_⟩
                        · rw [← tkR_step _ F q (by omega)]
                          exact row_set HQ.out.tk _ _
                        · by_cases e : q' = q
                          · rw [e]; omega
                          · exact HQ.out.free q' (by omega)
                      clear HP HNo HQ hcn
                      go_wp2
                      go_roundw
                      case rel => exact ⟨q + 1, by omega, by go_num, HQ'⟩
                      case measure => simp [intOf]; omega
                  · obtain rfl : q = M := by omega
                    have hge : ¬ (F : Int) + (q : Int) < (F : Int) + (q : Int) := by omega
                    have HH6 : Hid (Hs w bs tb (i + 1) la2 lc2 na2 nc2 wr) := by
                      have e : ((entS bs).take (i + 1)).map (·.1) = ((entS bs).take i).map (·.1) ++ [(F, q)] := by rw [Htake.out, List.map_append]; rfl
                      refine ⟨HQ.out.sp, HQ.out.ns, by rw [e]; exact HQ.out.tk, HQ.out.bel, fun h hh => ?_, fun j => ?_⟩
                      · rw [Htake.out] at hh
                        rcases List.mem_append.1 hh with h1 | h1
                        · exact Hoo.out.1 h h1
                        · rw [List.mem_singleton.1 h1]
                          have hZ := HZ.out
                          have hnd := Hnd.out
                          exact .inr ⟨by simp only; omega, by simp only; omega, hZ.2.1, hZ.2.2.1⟩
                      · rw [e, cnt_append, cnt_one]
                        have h1 := Hoo.out.2 j
                        by_cases hc : covers (F, q) j = true
                        · have hc' := hc
                          unfold covers at hc'
                          have hc2 := of_decide_eq_true hc'
                          simp only at hc2
                          have h2 := HQ.out.free (j - F) (by omega)
                          rw [show F + (j - F) = j by omega] at h2
                          rw [if_pos hc, h2]
                          omega
                        · rw [if_neg hc]
                          omega
                    clear HP HNo HQ
                    go_wp2
                    go_roundw
                    case rel => exact ⟨i + 1, la2, lc2, na2, nc2, by omega, rfl, rfl, by go_num, HH6.out⟩
                    case measure => simp [intOf]; omega
          · skip
            have e4 : ((M : Int) == (nd : Int)) = false := by simp; omega
            have e5 : ((M : Int) != (nd : Int)) = true := by simp; omega
            have HZ : Hid (N ≠ 0 ∧ M ≠ nd) := ⟨hN0, hMn⟩
            clear hN0 hMn hz
            go_wp2_with (at_builtin; first
              | (refine wpList_append_own _ rfl _ _ 32 rfl w.heap.size 41 i41 (.agg #[.int .i64 0, .int .i64 0]) 2 16 Try.underlying32 hi41 ha0 ha1 ha2 rfl (by decide) _ _ _ rfl Hsp1.out ⟨ve.heap.size, 0, none⟩ 1 1 [.int .i64 (F : Int), .int .i64 (M : Int)] rfl rfl hnw (by simp [Value.oneCell']) (by unfold maxLen; omega) (by omega) Hbe1.out.size ?_; clear hfst hnw; intro v1 w5 hown1 hgrow1 _; obtain ⟨la2, lc2, rfl⟩ := slice_of (by omega) hown1; have Hw1 : Hid _ := hown1; have Hg1 : Hid _ := hgrow1; clear hown1 hgrow1)
              | (refine wpList_append_own _ rfl _ _ 33 rfl w.heap.size 3 i3 (.int .i64 0) 1 8 Try.underlying33 hi3 hd0 hd1 hd2 rfl (by decide) _ _ _ rfl (ownsRow_on (grown_row Hsp1.out Hg1.out Hns1.out (by decide)) ((Below.refl _ _).alloc (Nat.le_refl _) _)) ⟨w5.heap.size, 0, none⟩ 1 1 [.int .i64 (N : Int)] rfl rfl (int_one w5 (N : Int)) (by simp [Value.oneCell']) (by unfold maxLen; omega) (by omega) (by have := Hg1.out.size; have := Hbe1.out.size; simp; omega) ?_; intro v2 w6 hown2 hgrow2 _; obtain ⟨na2, nc2, rfl⟩ := slice_of (by omega) hown2; have HJ : Hid (Hm w bs tb xb F M i la2 lc2 na2 nc2 w6) := HMk.out la2 lc2 w5 na2 nc2 w6 Hw1.out Hg1.out hown2 hgrow2; have HX0 : Hid (w6.cell? ⟨xb, 0, none⟩ = some (.int .i64 (F : Int))) := (cell_of_row w6 _ 0 _ 41 (0, 0) HJ.out.box).trans rfl; have HX1 : Hid (w6.cell? ⟨xb, 1, none⟩ = some (.int .i64 (M : Int))) := (cell_of_row w6 _ 1 _ 41 (0, 0) HJ.out.box).trans rfl; have q0 := HX0.out; have q1 := HX1.out; clear hown2 hgrow2))
            clear q0 q1 Hw1 Hg1
            refine region_L (fun w' => Below w6.heap.size w6 w') 22 (by kernel_rfl) ?_
            have HBz : Hid (Below w6.heap.size w6 w6.drew) := (Below.refl _ _).drew
            have HJd : Hid (Hm w bs tb xb F M i la2 lc2 na2 nc2 w6.drew) := HJ.out.drewN 1
            generalize w6.drew = va at *
            have hHeld : (fun w' => Below w6.heap.size w6 w') _ := HBz.out
            have hne : Nonempty (Sub (fun w' => Below w6.heap.size w6 w')) := ⟨⟨_, hHeld⟩⟩
            have k0 : ∀ s : Sub (fun w' => Below w6.heap.size w6 w'), s.w.cell? ⟨xb, 0, none⟩ = some (.int .i64 (F : Int)) := fun s => cell_below HX0.out s.ok
            have k1 : ∀ s : Sub (fun w' => Below w6.heap.size w6 w'), s.w.cell? ⟨xb, 1, none⟩ = some (.int .i64 (M : Int)) := fun s => cell_below HX1.out s.ok
            refine take_N (i := 0) rfl (by kernel_rfl) (by kernel_rfl) (by kernel_rfl) (by rfl) (fun _ _ _ _ h => h) (by exact hHeld) (fun K hK => ?_)
            go_simp
            refine hK _ ?_
            clear hK K
            refine take_N (i := 1) rfl (by kernel_rfl) (by kernel_rfl) (by kernel_rfl) (by rfl) (fun _ _ _ _ h => h) (by exact hHeld) (fun K hK => ?_)
            go_simp
            refine hK _ ?_
            clear hK K
            refine take_N (i := 2) rfl (by kernel_rfl) (by kernel_rfl) (by kernel_rfl) (by rfl) (fun _ _ _ _ h => h) (by exact hHeld) (fun K hK => ?_)
            go_simp
            refine hK _ ?_
            clear hK K
            refine take_N (i := 3) rfl (by kernel_rfl) (by kernel_rfl) (by kernel_rfl) (by rfl) (fun _ _ _ _ h => h) (by exact hHeld) (fun K hK => ?_)
            go_simp
            refine hK _ ?_
            clear hK K
            refine take_N (i := 4) rfl (by kernel_rfl) (by kernel_rfl) (by kernel_rfl) (by rfl) (fun _ _ _ _ h => h) (by exact hHeld) (fun K hK => ?_)
            go_simp
            refine hK _ ?_
            clear hK K
            refine take_N (i := 5) rfl (by kernel_rfl) (by kernel_rfl) (by kernel_rfl) (by rfl) (fun _ _ _ _ h => h) (by exact hHeld) (fun K hK => ?_)
            go_simp
            refine hK _ ?_
            clear hK K
            refine one_L (i := 6) (by kernel_rfl) rfl (fun K hK => ?_)
            go_simp
            refine (rneed_c (N : Int) (by unfold I64; omega) _).mono ?_
            rintro _ vc ⟨rfl, hvc⟩
            replace hvc := hvc.symm
            subst hvc
            rw [needI_nat, ← Hnd.out]
            replace hHeld : (fun w' => Below w6.heap.size w6 w') _ := hHeld
            refine hK.out _ _ (fun _ => hHeld) ?_
            clear hK K
            refine take_N (i := 7) rfl (by kernel_rfl) (by kernel_rfl) (by kernel_rfl) (by rfl) (fun _ _ _ _ h => h) (by exact hHeld) (fun K hK => ?_)
            go_simp
            refine hK _ ?_
            clear hK K
            refine take_N (i := 8) rfl (by kernel_rfl) (by kernel_rfl) (by kernel_rfl) (by rfl) (fun _ _ _ _ h => h) (by exact hHeld) (fun K hK => ?_)
            go_simp
            refine hK _ ?_
            clear hK K
            refine take_N (i := 9) rfl (by kernel_rfl) (by kernel_rfl) (by kernel_rfl) (by rfl) (fun _ _ _ _ h => h) (by exact hHeld) (fun K hK => ?_)
            go_simp
            refine hK _ ?_
            clear hK K
            refine take_N (i := 10) rfl (by kernel_rfl) (by kernel_rfl) (by kernel_rfl) (by rfl) (fun _ _ _ _ h => h) (by exact hHeld) (fun K hK => ?_)
            go_simp
            refine hK _ ?_
            clear hK K
            refine take_N (i := 11) rfl (by kernel_rfl) (by kernel_rfl) (by kernel_rfl) (by rfl) (fun _ _ _ _ h => h) (by exact hHeld) (fun K hK => ?_)
            go_simp
            refine hK _ ?_
            clear hK K
            refine take_N (i := 12) rfl (by kernel_rfl) (by kernel_rfl) (by kernel_rfl) (by rfl) (fun _ _ _ _ h => h) (by exact hHeld) (fun K hK => ?_)
            go_simp
            refine hK _ ?_
            clear hK K
            refine take_N (i := 13) rfl (by kernel_rfl) (by kernel_rfl) (by kernel_rfl) (by rfl) (fun _ _ _ _ h => h) (by exact hHeld) (fun K hK => ?_)
            go_simp
            refine hK _ ?_
            clear hK K
            refine take_N (i := 14) rfl (by kernel_rfl) (by kernel_rfl) (by kernel_rfl) (by rfl) (fun _ _ _ _ h => h) (by exact hHeld) (fun K hK => ?_)
            go_simp
            refine hK _ ?_
            clear hK K
            refine take_N (i := 15) rfl (by kernel_rfl) (by kernel_rfl) (by kernel_rfl) (by rfl) (fun _ _ _ _ h => h) (by exact hHeld) (fun K hK => ?_)
            go_simp
            refine hK _ ?_
            clear hK K
            refine take_N (i := 16) rfl (by kernel_rfl) (by kernel_rfl) (by kernel_rfl) (by rfl) (fun _ _ _ _ h => h) (by exact hHeld) (fun K hK => ?_)
            go_simp
            refine hK _ ?_
            clear hK K
            refine take_N (i := 17) rfl (by kernel_rfl) (by kernel_rfl) (by kernel_rfl) (by rfl) (fun _ _ _ _ h => h) (by exact hHeld) (fun K hK => ?_)
            go_simp
            refine hK _ ?_
            clear hK K
            refine take_N (i := 18) rfl (by kernel_rfl) (by kernel_rfl) (by kernel_rfl) (by rfl) (fun _ _ _ _ h => h) (by exact hHeld) (fun K hK => ?_)
            go_simp
            refine hK _ ?_
            clear hK K
            refine take_N (i := 19) rfl (by kernel_rfl) (by kernel_rfl) (by kernel_rfl) (by rfl) (fun _ _ _ _ h => h) (by exact hHeld) (fun K hK => ?_)
            go_simp
            refine hK _ ?_
            clear hK K
            refine take_N (i := 20) rfl (by kernel_rfl) (by kernel_rfl) (by kernel_rfl) (by rfl) (fun _ _ _ _ h => h) (by exact hHeld) (fun K hK => ?_)
            go_simp
            refine hK _ ?_
            clear hK K
            refine take_N (i := 21) rfl (by kernel_rfl) (by kernel_rfl) (by kernel_rfl) (by rfl) (fun _ _ _ _ h => h) (by exact hHeld) (fun K hK => ?_)
            go_simp
            refine hK _ ?_
            clear hK K
            refine done_L (by kernel_rfl) ?_ _
            have R := HNo.out va HJd.out.bel (fun h => by
              have hZ := HZ.out
              have he := h.ok _ (List.getElem_mem hil)
              rw [Hent.out] at he
              have hnd := Hnd.out
              rcases he with he | he
              · simp only [Prod.mk.injEq] at he
                omega
              · simp only at he
                omega)
            clear hHeld hne k0 k1 HP HNo
            go_wp2
            exact bodyPost_ret (results_tmp3 (t := 2) (u := 3) (v := 4) rfl _ _ _) rfl R
    · obtain rfl : i = 16 := by omega
      have e : (entS bs).take 16 = entS bs := List.take_of_length_le (by rw [entS_len]; exact Nat.le_refl _)
      have hsp := HH.out.sp
      have hns := HH.out.ns
      have hok := HH.out.ok
      have hon := HH.out.once
      rw [e] at hsp hns hok hon
      have R := HP.out (.returned (.tuple #[.slice la 16 lc, .slice na 16 nc, .bool true])) wr ⟨HH.out.bel, .inr ⟨⟨hok, hon⟩, la, lc, na, nc, rfl, hsp, hns⟩⟩
      clear HP HNo HH hsp hns hok hon e
      go_wp2
      exact bodyPost_ret (results_tmp3 (t := 2) (u := 3) (v := 4) rfl _ _ _) rfl R
end Go.Proofs.Ytdjhlpllffakpaa
