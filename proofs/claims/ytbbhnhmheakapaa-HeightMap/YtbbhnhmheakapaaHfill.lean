/-
  The landed height: what each of a chunk's columns answers, and Map; what is asked of a height's package (hspec).
-/
import Derived.Test.YtbbhnhmheakapaaPheld
set_option maxRecDepth 20000
namespace Go.Proofs.Ytbbhnhmheakapaa
open N Go.RowKit Go.Shelf

attribute [local go_sem] Oper.semAt_some

theorem cells_kept {X Y : World} {row : Option Nat} {B k : Nat} {cs : Array Value} {t : TypeId} {fr : Nat × Nat} (hg : X.grownBy Y row) (hr : ∀ r, row = some r → B ≤ r ∧ ∃ o : Obj, X.heap[r]? = some o ∧ o.isCells = false) (h : X.heap[k]? = some (.cells cs t fr)) : Y.heap[k]? = some (.cells cs t fr) := by
  refine (hg.block k (Array.getElem?_eq_some_iff.1 h).1 (fun e => ?_)).trans h
  obtain ⟨_, o, ho, hc⟩ := hr k e.symm
  rw [h] at ho
  cases ho
  cases hc
theorem row_block {W : World} {lo n k : Nat} {e : TypeId} {v : Value} {xs : List Value} (h : W.ownsRow lo e n v k xs) : ∀ r, v.ownBlock = some r → lo ≤ r ∧ ∃ cs, W.heap[r]? = some (.cells cs e (0, 0)) := by
  intro r hr
  rcases h.2 with ⟨rfl, _⟩ | ⟨g', cap, cur, rfl, hlo, hb, _⟩
  · simp [Value.ownBlock] at hr
  · obtain rfl : g' = r := by simpa [Value.ownBlock] using hr
    exact ⟨hlo, _, hb⟩
theorem row_slice {W : World} {lo n k : Nat} {e : TypeId} {v : Value} {xs : List Value} (h : W.ownsRow lo e n v k xs) : ∃ a c, v = .slice a k c := by
  rcases h.2 with ⟨rfl, rfl⟩ | ⟨g', cap, cur, rfl, _⟩
  · exact ⟨_, _, rfl⟩
  · exact ⟨_, _, rfl⟩
theorem Cbox.alloc {W : World} {B : Nat} {x z : Int} (h : Cbox W B x z) (o : Obj) : Cbox (W.alloc o) B x z := (Below.heap_alloc W o B (Array.getElem?_eq_some_iff.1 h).1).trans h
theorem boxed_on {W W' : World} {B : Nat} {t : TypeId} {v : Value} (h : Boxed W B t v) (hb : Below W.heap.size W W') : Boxed W' B t v := (hb.block B h.lt).trans h
theorem cbox_on {W W' : World} {B : Nat} {x z : Int} (h : Cbox W B x z) (hb : Below W.heap.size W W') : Cbox W' B x z := (hb.block B (Array.getElem?_eq_some_iff.1 h).1).trans h
theorem keeps_below {lo : Nat} {W W' : World} (hb : Below W.heap.size W W') : KeepsFrom lo W W' := ⟨hb.size, fun k _ _ ho _ => (hb.block k (Array.getElem?_eq_some_iff.1 ho).1).trans ho⟩
theorem map_cols (f : Int → Int → Int) (x z : Int) (n : Nat) : (colsL x z n).map (fun p => f p.1 p.2) = (List.range n).map fun (i : Nat) => f (x * 16 + (i : Int) % 16) (z * 16 + (i : Int) / 16) := by simp [colsL]
/-- The variables that the round's region reads. -/
structure Reads2 (b1 b3 : Nat) (fv v : Value) (w : World) : Prop where
  f : Boxed w b1 34 fv
  v : Boxed w b3 28 v

theorem clos_17 (S q : Nat) (x z : Int) (w : World) (hS : S < 18446744073709551616) (hx : I64 x) (hz : I64 z) (hq : Boxed w q 22 (.int .u64 S)) :
    Calls Try.prog 17 #[.int .i64 x, .int .i64 z, .pointer (some ⟨q, 0, none⟩)] w fun e w' => e = .returned (.int .i64 (hOf S x z)) ∧ Below w.heap.size w w' := by
  have c := hq.cell
  have hc := of_c S x z w hS hx hz
  generalize hOf S x z = v at hc ⊢
  go_enter Try.func17, Try.ntmps17
  go_wp2_with fail
  refine hc.mono ?_
  rintro _ w1 ⟨rfl, hb1⟩
  go_wp2
  go_ret
  exact ⟨rfl, hb1⟩

def vals17 (S : Nat) (l : List P2) : List Int := (ps l).map fun p => hOf S p.1 p.2
theorem vals17_snoc (S : Nat) (l : List P2) (p : P2) : vals17 S (l ++ [p]) = vals17 S l ++ [hOf S p.x p.z] := by simp [vals17, ps_snoc]
theorem vals17_len (S : Nat) (l : List P2) : (vals17 S l).length = l.length := by simp [vals17, ps_len]
theorem vals17_all (S : Nat) (x z : Int) (l : List P2) (h : ps l = colsL x z 256) : vals17 S l = mapH S x z := by
  unfold vals17
  rw [h]
  exact map_cols (hOf S) x z 256

set_option maxRecDepth 100000 in
set_option maxHeartbeats 2000000 in
theorem ask_17 (S q : Nat) (x z : Int) (w : World) (hS : S < 18446744073709551616) (hx : Far 1073741825 x) (hz : Far 1073741825 z) (hq : Boxed w q 22 (.int .u64 S)) :
    Calls Try.prog 16 #[.agg #[.int .i64 x, .int .i64 z], .func (.func 17) #[] #[.pointer (some ⟨q, 0, none⟩)]] w fun e w' => Below w.heap.size w w' ∧ ∃ a c, e = .returned (.slice a 256 c) ∧ ColsAt w' a (mapH S x z) := by
  obtain ⟨i0, hi, hz0, hz1, hz2⟩ := info_parts info3
  have hmk : ∀ w, (Instr.makeSlice 28 (.int .i64 0) (.int .i64 256)).run Try.prog w = .ok (.slice (some ⟨w.heap.size, 0, none⟩) 0 256) (w.alloc (.cells (madeCells #[.int .i64 0] 256) 3)) := fun w => by
    have := run_makeSlice (P := Try.prog) w 28 3 i0 _ Try.underlying28 hi hz0 .i64 .i64 0 256 (by omega) (by omega) (by rw [hz1]; omega) (by rw [hz2]; omega) (by omega)
    rw [hz1] at this
    simpa [Value.cells] using this
  obtain ⟨mc, hmc⟩ : ∃ mc, madeCells #[.int .i64 0] 256 = mc := ⟨_, rfl⟩
  have hmcs : mc.size = 256 := by rw [← hmc]; exact size_madeCells _ _
  rw [hmc] at hmk
  clear hmc hz0 hz1 hz2 hi i0
  have Hq : Hid (Boxed w q 22 (.int .u64 S)) := hq
  have Hx : Hid (Far 1073741825 x ∧ Far 1073741825 z) := ⟨hx, hz⟩
  clear hq hx hz
  refine (callsIn_wide (n := 6)).1 ?_
  refine callsIn_of_wp_marks Try.func16 rfl trivial ?_ rfl
  simp only [Try.ntmps16, List.size_toArray, List.length_cons, List.length_nil, Nat.reduceAdd, Nat.reduceSub, Array.replicate_succ, Array.replicate_zero, List.push_toArray, List.append_toArray, List.nil_append, List.cons_append]
  gi_wp2_with (fail)
  refine ⟨trivial, ?_⟩
  refine (callsIn_wide.2 (columns_c x z _)).mono ?_
  rintro e w2 ⟨rfl, rfl⟩
  gi_wp2_with (fail)
  obtain ⟨W0, hW0⟩ : ∃ W0, W0 = ((((w.alloc (.cells #[.int .i64 x, .int .i64 z] 27)).alloc (.cells #[.func (.func 17) #[] #[.pointer (some ⟨q, 0, none⟩)]] 34)).alloc (.cells mc 3)).alloc (.cells #[.slice (some ⟨w.heap.size + 1 + 1, 0, none⟩) 0 256] 28)).alloc (.cells #[.int .i64 x, .int .i64 z] 27) := ⟨_, rfl⟩
  have bC : Cbox W0 (w.heap.size + 1 + 1 + 1 + 1) x z := by
    have := heap_alloc_new ((((w.alloc (.cells #[.int .i64 x, .int .i64 z] 27)).alloc (.cells #[.func (.func 17) #[] #[.pointer (some ⟨q, 0, none⟩)]] 34)).alloc (.cells mc 3)).alloc (.cells #[.slice (some ⟨w.heap.size + 1 + 1, 0, none⟩) 0 256] 28)) (.cells #[.int .i64 x, .int .i64 z] 27)
    simp only [World.size_alloc] at this
    rw [hW0]; exact this
  have bF : Boxed W0 (w.heap.size + 1) 34 (.func (.func 17) #[] #[.pointer (some ⟨q, 0, none⟩)]) := by
    have := (((Boxed.new (w.alloc (.cells #[.int .i64 x, .int .i64 z] 27)) 34 (.func (.func 17) #[] #[.pointer (some ⟨q, 0, none⟩)])).alloc (.cells mc 3)).alloc (.cells #[.slice (some ⟨w.heap.size + 1 + 1, 0, none⟩) 0 256] 28)).alloc (.cells #[.int .i64 x, .int .i64 z] 27)
    simp only [World.size_alloc] at this
    rw [hW0]; exact this
  have bV : Boxed W0 (w.heap.size + 1 + 1 + 1) 28 (.slice (some ⟨w.heap.size + 1 + 1, 0, none⟩) 0 256) := by
    have := (Boxed.new (((w.alloc (.cells #[.int .i64 x, .int .i64 z] 27)).alloc (.cells #[.func (.func 17) #[] #[.pointer (some ⟨q, 0, none⟩)]] 34)).alloc (.cells mc 3)) 28 (.slice (some ⟨w.heap.size + 1 + 1, 0, none⟩) 0 256)).alloc (.cells #[.int .i64 x, .int .i64 z] 27)
    simp only [World.size_alloc] at this
    rw [hW0]; exact this
  have hb0 : Below w.heap.size w W0 := by rw [hW0]; exact (((((Below.refl _ w).alloc (Nat.le_refl _) _).alloc (by simp) _).alloc (by simp; omega) _).alloc (by simp; omega) _).alloc (by simp; omega) _
  have hR0 : W0.ownsRow w.heap.size 3 1 (.slice (some ⟨w.heap.size + 1 + 1, 0, none⟩) 0 256) 0 [] := by
    have := World.ownsRow.alloc (World.ownsRow.alloc (World.ownsRow_made (e := 3) (size := 1) (base := w.heap.size) ((w.alloc (.cells #[.int .i64 x, .int .i64 z] 27)).alloc (.cells #[.func (.func 17) #[] #[.pointer (some ⟨q, 0, none⟩)]] 34)) mc 256 (by simp; omega) (by simp [maxLen]) (by rw [hmcs])) (.cells #[.slice (some ⟨w.heap.size + 1 + 1, 0, none⟩) 0 256] 28)) (.cells #[.int .i64 x, .int .i64 z] 27)
    simp only [World.size_alloc] at this
    rw [hW0]; exact this
  have hsz : W0.heap.size = w.heap.size + 5 := by rw [hW0]; simp
  rw [← hW0]
  clear hW0 hmk
  have Hsz : Hid (W0.heap.size = w.heap.size + 5) := hsz
  clear hsz
  have hst := cols_stops 5 (by omega) (w.heap.size + 1 + 1 + 1 + 1) x z Hx.out.1 Hx.out.2 W0 bC
  refine wpIn_rangeFunc_ownH rfl (by decide) (gf := 30) (lb := #[.pointer (some ⟨w.heap.size + 1 + 1 + 1 + 1, 0, none⟩)]) rfl trivial (enters_of Try.func30 (by kernel_rfl) rfl)
    hst (fun h k => Kc.trans h k) (fun W l o o' _ h ho _ => Kc.book W l o o' h ho) (Below.refl _ _) (fun _ => rfl)
    (fun pre W => (∃ v, Boxed W (w.heap.size + 1 + 1 + 1) 28 v ∧ W.ownsRow w.heap.size 3 1 v pre.length (ivs (vals17 S pre)) ∧ True) ∧ Boxed W (w.heap.size + 1) 34 (.func (.func 17) #[] #[.pointer (some ⟨q, 0, none⟩)]) ∧ Cbox W (w.heap.size + 1 + 1 + 1 + 1) x z ∧ Below w.heap.size w W)
    (fun _ _ _ => False)
    (OwnFrom.and (Own.from (holdsRow_own w.heap.size (w.heap.size + 1 + 1 + 1) 28 3 1 (fun pre : List P2 => pre.length) (fun pre => ivs (vals17 S pre)) (fun _ _ => True)) _) (OwnFrom.and (Own.from (boxed_own (w.heap.size + 1) 34 (fun _ : List P2 => .func (.func 17) #[] #[.pointer (some ⟨q, 0, none⟩)])) _) (OwnFrom.and (fun _ X Y row hs hg hr => cells_kept hg hr hs) (ownFrom_below (Nat.le_refl _) (by have := Hsz.out; omega)))))
    (fun _ _ _ _ _ hs _ _ => hs)
    ⟨⟨_, bV, hR0, trivial⟩, bF, bC, hb0⟩
    (fun p a' _ => a' = { tmps := #[Value.agg #[Value.int IntKind.i64 x, Value.int IntKind.i64 z], Value.func (Fn.func 17) #[] #[Value.pointer (some { block := q, off := 0 })], Value.pointer (some { block := w.heap.size, off := 0 }), Value.pointer (some { block := w.heap.size + 1, off := 0 }), Value.slice none 0 0, Value.pointer (some { block := w.heap.size + 1 + 1 + 1, off := 0 }), .int .i64 p.x, .int .i64 p.z, Value.slice (some { block := w.heap.size + 1 + 1, off := 0 }) 0 256, Value.agg #[Value.int IntKind.i64 x, Value.int IntKind.i64 z], Value.func (Fn.func 30) #[] #[Value.pointer (some { block := w.heap.size + 1 + 1 + 1 + 1, off := 0 })], .int .i64 p.x, .int .i64 p.z, undef, undef, undef, undef, undef, undef, undef, undef], defers := [] })
    (fun p a' _ X Y row hs hg hr => hs)
    ?assign ?body ?done ?stop
  case assign =>
    rintro l pre p W K hI hK
    have HK : Hid (∀ a' W', _ → _ → _ → _ → K a' W') := hK
    have HI : Hid _ := hI
    clear hK hI
    gi_wp2
    exact HK.out _ _ (KeepsFrom.refl _ _) (Kc.refl _ _) HI.out rfl
  case body =>
    rintro l pre p a' W _ _ ⟨⟨v, hv, hrow, _⟩, hbF, hbC, hB⟩ rfl hlt
    obtain ⟨av, cv, rfl⟩ := row_slice hrow
    gi_wp2_with (fail)
    refine region_round_L (Reads2 (w.heap.size + 1) (w.heap.size + 1 + 1 + 1) (.func (.func 17) #[] #[.pointer (some ⟨q, 0, none⟩)]) (.slice av pre.length cv)) 7 (by kernel_rfl) (by kernel_rfl) (by rintro ⟨_, _, h⟩; exact h) ?_
    have hd0 : Below W.heap.size W W.drew := (Below.refl _ W).drew
    have hHeld : Reads2 (w.heap.size + 1) (w.heap.size + 1 + 1 + 1) (.func (.func 17) #[] #[.pointer (some ⟨q, 0, none⟩)]) (.slice av pre.length cv) W.drew := ⟨hbF, hv⟩
    have Hrow : Hid (W.drew.ownsRow w.heap.size 3 1 (.slice av pre.length cv) pre.length (ivs (vals17 S pre))) := ownsRow_on hrow hd0
    have HC : Hid (Cbox W.drew (w.heap.size + 1 + 1 + 1 + 1) x z) := hbC
    have HB : Hid (Below w.heap.size w W.drew) := hB.drew
    have HD : Hid (Below W.heap.size W W.drew) := hd0
    clear hd0 hv hrow hbF hbC hB
    generalize W.drew = va at *
    have hne : Nonempty (Sub (Reads2 (w.heap.size + 1) (w.heap.size + 1 + 1 + 1) (.func (.func 17) #[] #[.pointer (some ⟨q, 0, none⟩)]) (.slice av pre.length cv))) := ⟨⟨_, hHeld⟩⟩
    have k0 : ∀ s : Sub (Reads2 (w.heap.size + 1) (w.heap.size + 1 + 1 + 1) (.func (.func 17) #[] #[.pointer (some ⟨q, 0, none⟩)]) (.slice av pre.length cv)), s.w.cell? ⟨w.heap.size + 1, 0, none⟩ = some (.func (.func 17) #[] #[.pointer (some ⟨q, 0, none⟩)]) := fun s => s.ok.f.cell
    have k1 : ∀ s : Sub (Reads2 (w.heap.size + 1) (w.heap.size + 1 + 1 + 1) (.func (.func 17) #[] #[.pointer (some ⟨q, 0, none⟩)]) (.slice av pre.length cv)), s.w.cell? ⟨w.heap.size + 1 + 1 + 1, 0, none⟩ = some (.slice av pre.length cv) := fun s => s.ok.v.cell
    refine take_L (i := 0) rfl (by kernel_rfl) (by kernel_rfl) (by kernel_rfl) (by kernel_rfl) (fun _ _ _ _ h => h) (by exact hHeld) (fun K hK => ?_)
    go_simp
    refine hK _ ?_
    clear hK K
    refine take_L (i := 1) rfl (by kernel_rfl) (by kernel_rfl) (by kernel_rfl) (by kernel_rfl) (fun _ _ _ _ h => h) (by exact hHeld) (fun K hK => ?_)
    go_simp
    refine hK _ ?_
    clear hK K
    refine take_L (i := 2) rfl (by kernel_rfl) (by kernel_rfl) (by kernel_rfl) (by kernel_rfl) (fun _ _ _ _ h => h) (by exact hHeld) (fun K hK => ?_)
    go_simp
    refine hK _ ?_
    clear hK K
    refine take_L (i := 3) rfl (by kernel_rfl) (by kernel_rfl) (by kernel_rfl) (by kernel_rfl) (fun _ _ _ _ h => h) (by exact hHeld) (fun K hK => ?_)
    go_simp
    refine hK _ ?_
    clear hK K
    refine one_L (i := 4) (by kernel_rfl) rfl (fun K hK => ?_)
    go_simp
    refine (clos_17 S q p.x p.z va hS p.hx p.hz (boxed_on Hq.out (HB.out.mono (Nat.le_refl _)))).mono ?_
    rintro _ w1 ⟨rfl, hb1⟩
    replace hHeld : Reads2 (w.heap.size + 1) (w.heap.size + 1 + 1 + 1) (.func (.func 17) #[] #[.pointer (some ⟨q, 0, none⟩)]) (.slice av pre.length cv) w1 := ⟨boxed_on hHeld.f hb1, boxed_on hHeld.v hb1⟩
    refine hK.out _ _ (fun _ => hHeld) ?_
    clear hK K hne k0 k1
    have Hrow1 : Hid (w1.ownsRow w.heap.size 3 1 (.slice av pre.length cv) pre.length (ivs (vals17 S pre))) := ownsRow_on Hrow.out hb1
    have HC1 : Hid (Cbox w1 (w.heap.size + 1 + 1 + 1 + 1) x z) := cbox_on HC.out hb1
    have HB1 : Hid (Below w.heap.size w w1) := HB.out.trans (hb1.mono HB.out.size)
    have HD1 : Hid (Below W.heap.size W w1) := HD.out.trans (hb1.mono HD.out.size)
    clear Hrow HC HB HD hb1
    have Hvs : Hid (vals17 S (pre ++ [p]) = vals17 S pre ++ [hOf S p.x p.z]) := vals17_snoc S pre p
    generalize hOf S p.x p.z = y at *
    refine one_L (i := 5) (by kernel_rfl) rfl (fun K hK => ?_)
    go_simp
    refine hK.out _ _ (fun _ => ⟨hHeld.f.alloc _, hHeld.v.alloc _⟩) ?_
    clear hK K
    refine one_W (i := 6) (by kernel_rfl) rfl (fun K hK => ?_)
    refine wpList_append_int rfl _ _ rfl w.heap.size av pre.length cv (vals17 S pre) (vals17_len S pre) rfl (by unfold OwnI; rw [vals17_len]; exact Hrow1.out.alloc _) ⟨w1.heap.size, 0, none⟩ y rfl (cell_one_int _ _ _) (by omega) (by have := HB1.out.size; simp; omega) ?_
    intro a3 c3 w3 HO3 hg3 _
    obtain ⟨hv1, hv2, hr2, hk2, hb2⟩ := hHeld.v.appended (by decide) Hrow1.out HB1.out.size (by omega) (show w3.ownsRow w.heap.size 3 1 (.slice a3 (pre.length + 1) c3) (pre.length + 1) (ivs (vals17 S pre ++ [y])) by
      have := HO3.out
      unfold OwnI at this
      rwa [List.length_append, vals17_len] at this) hg3
    have hF3 : Boxed w3 (w.heap.size + 1) 34 (.func (.func 17) #[] #[.pointer (some ⟨q, 0, none⟩)]) := (hHeld.f.alloc _).kept hg3 (Boxed.not_row hHeld.f (by decide) Hrow1.out)
    refine hK.out _ _ (fun _ => ⟨hF3, hv1⟩) ?_
    clear hK K
    have hKc : Kc (w.heap.size + 1 + 1 + 1 + 1) w1 (w3.setCell ⟨w.heap.size + 1 + 1 + 1, 0, none⟩ (.slice a3 (pre.length + 1) c3)) := by
      refine ((Kc.grow (World.grownBy_alloc w1 _ none)).trans (Kc.row hg3 (fun r hr => ?_))).trans (Kc.set (by omega))
      obtain ⟨_, cs, h2⟩ := row_block (Hrow1.out.alloc (.cells #[.int .i64 y] 3)) r hr
      intro e
      rw [e, show (w1.alloc _).heap[w.heap.size + 1 + 1 + 1 + 1]? = _ from HC1.out.alloc _] at h2
      cases h2
    have HX : Hid (KeepsFrom W0.heap.size W (w3.setCell ⟨w.heap.size + 1 + 1 + 1, 0, none⟩ (.slice a3 (pre.length + 1) c3)) ∧ Kc (w.heap.size + 1 + 1 + 1 + 1) W (w3.setCell ⟨w.heap.size + 1 + 1 + 1, 0, none⟩ (.slice a3 (pre.length + 1) c3)) ∧ ((∃ v, Boxed (w3.setCell ⟨w.heap.size + 1 + 1 + 1, 0, none⟩ (.slice a3 (pre.length + 1) c3)) (w.heap.size + 1 + 1 + 1) 28 v ∧ (w3.setCell ⟨w.heap.size + 1 + 1 + 1, 0, none⟩ (.slice a3 (pre.length + 1) c3)).ownsRow w.heap.size 3 1 v (pre ++ [p]).length (ivs (vals17 S (pre ++ [p]))) ∧ True) ∧ Boxed (w3.setCell ⟨w.heap.size + 1 + 1 + 1, 0, none⟩ (.slice a3 (pre.length + 1) c3)) (w.heap.size + 1) 34 (.func (.func 17) #[] #[.pointer (some ⟨q, 0, none⟩)]) ∧ Cbox (w3.setCell ⟨w.heap.size + 1 + 1 + 1, 0, none⟩ (.slice a3 (pre.length + 1) c3)) (w.heap.size + 1 + 1 + 1 + 1) x z ∧ Below w.heap.size w (w3.setCell ⟨w.heap.size + 1 + 1 + 1, 0, none⟩ (.slice a3 (pre.length + 1) c3)))) := by
      refine ⟨(keeps_below HD1.out).trans (hk2.from _), (Kc.below HD1.out).trans hKc, ⟨_, hv2, ?_, trivial⟩, hF3.other (by omega) _, hKc _ _ _ HC1.out, HB1.out.trans hb2⟩
      rw [Hvs.out, List.length_append]
      exact hr2
    have c1 := hv1.cell
    have f1 := hv1.frozen
    clear hKc hv2 hr2 hk2 hb2 HO3 hg3 hF3 hv1 HC1 HB1 HD1 Hrow1 hHeld Hvs
    refine one_L (i := 7) (by kernel_rfl) rfl (fun K hK => ?_)
    go_simp
    refine hK.out _ _ (fun h => absurd rfl h) ?_
    clear hK K c1 f1
    refine done_L (by kernel_rfl) ?_ _
    generalize w3.setCell ⟨w.heap.size + 1 + 1 + 1, 0, none⟩ (.slice a3 (pre.length + 1) c3) = vc at *
    gi_wp2
    exact HX.out
  case done =>
    rintro D ys W hD hq ⟨⟨v, hv, hrow, _⟩, _, _, hB⟩ hK
    have hc := hv.cell
    have hlen : ys.length = 256 := by rw [← ps_len, hq, colsL_len]
    have Hr : Hid (∃ a c, v = .slice a 256 c ∧ Below w.heap.size w (W.putObj D (.deferred none)) ∧ ColsAt (W.putObj D (.deferred none)) a (mapH S x z)) := by
      have hR := ownsRow_putObj hrow (.deferred none) hK rfl
      rw [hlen] at hR
      rw [vals17_all S x z ys hq] at hR
      obtain ⟨a, c, rfl⟩ := row_slice hR
      have hml : (mapH S x z).length = 256 := mapH_len S x z
      refine ⟨a, c, rfl, hB.trans (belowK_b (w := W0) hb0.size W D _ (.deferred none) hD hK rfl rfl), ?_⟩
      have hO : OwnI (W.putObj D (.deferred none)) w.heap.size a c (mapH S x z) := by unfold OwnI; rw [hml]; exact hR
      exact hO.cols (by rw [hml]; omega)
    clear hv hrow hB
    gi_wp2
    refine ⟨by simp, .inl ⟨_, _, rfl, run_takeDeferred hK, ?_⟩⟩
    obtain ⟨a, c, rfl, h1, h2⟩ := Hr.out
    exact ⟨_, results_tmp rfl _ _ _, h1, a, c, rfl, h2⟩
  case stop =>
    rintro D c pre W _ _ h _
    exact h.elim

theorem clos_18 (S q : Nat) (x z : Int) (w : World) (hS : S < 18446744073709551616) (hx : I64 x) (hz : I64 z) (hq : Boxed w q 22 (.int .u64 S)) :
    Calls Try.prog 18 #[.int .i64 x, .int .i64 z, .pointer (some ⟨q, 0, none⟩)] w fun e w' => e = .returned (.int .i64 (bandOf S x z)) ∧ Below w.heap.size w w' := by
  have c := hq.cell
  have hc := band_c S x z w hS hx hz
  generalize bandOf S x z = v at hc ⊢
  go_enter Try.func18, Try.ntmps18
  go_wp2_with fail
  refine hc.mono ?_
  rintro _ w1 ⟨rfl, hb1⟩
  go_wp2
  go_ret
  exact ⟨rfl, hb1⟩

def vals18 (S : Nat) (l : List P2) : List Int := (ps l).map fun p => bandOf S p.1 p.2
theorem vals18_snoc (S : Nat) (l : List P2) (p : P2) : vals18 S (l ++ [p]) = vals18 S l ++ [bandOf S p.x p.z] := by simp [vals18, ps_snoc]
theorem vals18_len (S : Nat) (l : List P2) : (vals18 S l).length = l.length := by simp [vals18, ps_len]
theorem vals18_all (S : Nat) (x z : Int) (l : List P2) (h : ps l = colsL x z 256) : vals18 S l = mapB S x z := by
  unfold vals18
  rw [h]
  exact map_cols (bandOf S) x z 256

set_option maxRecDepth 100000 in
set_option maxHeartbeats 2000000 in
theorem ask_18 (S q : Nat) (x z : Int) (w : World) (hS : S < 18446744073709551616) (hx : Far 1073741825 x) (hz : Far 1073741825 z) (hq : Boxed w q 22 (.int .u64 S)) :
    Calls Try.prog 16 #[.agg #[.int .i64 x, .int .i64 z], .func (.func 18) #[] #[.pointer (some ⟨q, 0, none⟩)]] w fun e w' => Below w.heap.size w w' ∧ ∃ a c, e = .returned (.slice a 256 c) ∧ ColsAt w' a (mapB S x z) := by
  obtain ⟨i0, hi, hz0, hz1, hz2⟩ := info_parts info3
  have hmk : ∀ w, (Instr.makeSlice 28 (.int .i64 0) (.int .i64 256)).run Try.prog w = .ok (.slice (some ⟨w.heap.size, 0, none⟩) 0 256) (w.alloc (.cells (madeCells #[.int .i64 0] 256) 3)) := fun w => by
    have := run_makeSlice (P := Try.prog) w 28 3 i0 _ Try.underlying28 hi hz0 .i64 .i64 0 256 (by omega) (by omega) (by rw [hz1]; omega) (by rw [hz2]; omega) (by omega)
    rw [hz1] at this
    simpa [Value.cells] using this
  obtain ⟨mc, hmc⟩ : ∃ mc, madeCells #[.int .i64 0] 256 = mc := ⟨_, rfl⟩
  have hmcs : mc.size = 256 := by rw [← hmc]; exact size_madeCells _ _
  rw [hmc] at hmk
  clear hmc hz0 hz1 hz2 hi i0
  have Hq : Hid (Boxed w q 22 (.int .u64 S)) := hq
  have Hx : Hid (Far 1073741825 x ∧ Far 1073741825 z) := ⟨hx, hz⟩
  clear hq hx hz
  refine (callsIn_wide (n := 6)).1 ?_
  refine callsIn_of_wp_marks Try.func16 rfl trivial ?_ rfl
  simp only [Try.ntmps16, List.size_toArray, List.length_cons, List.length_nil, Nat.reduceAdd, Nat.reduceSub, Array.replicate_succ, Array.replicate_zero, List.push_toArray, List.append_toArray, List.nil_append, List.cons_append]
  gi_wp2_with (fail)
  refine ⟨trivial, ?_⟩
  refine (callsIn_wide.2 (columns_c x z _)).mono ?_
  rintro e w2 ⟨rfl, rfl⟩
  gi_wp2_with (fail)
  obtain ⟨W0, hW0⟩ : ∃ W0, W0 = ((((w.alloc (.cells #[.int .i64 x, .int .i64 z] 27)).alloc (.cells #[.func (.func 18) #[] #[.pointer (some ⟨q, 0, none⟩)]] 34)).alloc (.cells mc 3)).alloc (.cells #[.slice (some ⟨w.heap.size + 1 + 1, 0, none⟩) 0 256] 28)).alloc (.cells #[.int .i64 x, .int .i64 z] 27) := ⟨_, rfl⟩
  have bC : Cbox W0 (w.heap.size + 1 + 1 + 1 + 1) x z := by
    have := heap_alloc_new ((((w.alloc (.cells #[.int .i64 x, .int .i64 z] 27)).alloc (.cells #[.func (.func 18) #[] #[.pointer (some ⟨q, 0, none⟩)]] 34)).alloc (.cells mc 3)).alloc (.cells #[.slice (some ⟨w.heap.size + 1 + 1, 0, none⟩) 0 256] 28)) (.cells #[.int .i64 x, .int .i64 z] 27)
    simp only [World.size_alloc] at this
    rw [hW0]; exact this
  have bF : Boxed W0 (w.heap.size + 1) 34 (.func (.func 18) #[] #[.pointer (some ⟨q, 0, none⟩)]) := by
    have := (((Boxed.new (w.alloc (.cells #[.int .i64 x, .int .i64 z] 27)) 34 (.func (.func 18) #[] #[.pointer (some ⟨q, 0, none⟩)])).alloc (.cells mc 3)).alloc (.cells #[.slice (some ⟨w.heap.size + 1 + 1, 0, none⟩) 0 256] 28)).alloc (.cells #[.int .i64 x, .int .i64 z] 27)
    simp only [World.size_alloc] at this
    rw [hW0]; exact this
  have bV : Boxed W0 (w.heap.size + 1 + 1 + 1) 28 (.slice (some ⟨w.heap.size + 1 + 1, 0, none⟩) 0 256) := by
    have := (Boxed.new (((w.alloc (.cells #[.int .i64 x, .int .i64 z] 27)).alloc (.cells #[.func (.func 18) #[] #[.pointer (some ⟨q, 0, none⟩)]] 34)).alloc (.cells mc 3)) 28 (.slice (some ⟨w.heap.size + 1 + 1, 0, none⟩) 0 256)).alloc (.cells #[.int .i64 x, .int .i64 z] 27)
    simp only [World.size_alloc] at this
    rw [hW0]; exact this
  have hb0 : Below w.heap.size w W0 := by rw [hW0]; exact (((((Below.refl _ w).alloc (Nat.le_refl _) _).alloc (by simp) _).alloc (by simp; omega) _).alloc (by simp; omega) _).alloc (by simp; omega) _
  have hR0 : W0.ownsRow w.heap.size 3 1 (.slice (some ⟨w.heap.size + 1 + 1, 0, none⟩) 0 256) 0 [] := by
    have := World.ownsRow.alloc (World.ownsRow.alloc (World.ownsRow_made (e := 3) (size := 1) (base := w.heap.size) ((w.alloc (.cells #[.int .i64 x, .int .i64 z] 27)).alloc (.cells #[.func (.func 18) #[] #[.pointer (some ⟨q, 0, none⟩)]] 34)) mc 256 (by simp; omega) (by simp [maxLen]) (by rw [hmcs])) (.cells #[.slice (some ⟨w.heap.size + 1 + 1, 0, none⟩) 0 256] 28)) (.cells #[.int .i64 x, .int .i64 z] 27)
    simp only [World.size_alloc] at this
    rw [hW0]; exact this
  have hsz : W0.heap.size = w.heap.size + 5 := by rw [hW0]; simp
  rw [← hW0]
  clear hW0 hmk
  have Hsz : Hid (W0.heap.size = w.heap.size + 5) := hsz
  clear hsz
  have hst := cols_stops 5 (by omega) (w.heap.size + 1 + 1 + 1 + 1) x z Hx.out.1 Hx.out.2 W0 bC
  refine wpIn_rangeFunc_ownH rfl (by decide) (gf := 30) (lb := #[.pointer (some ⟨w.heap.size + 1 + 1 + 1 + 1, 0, none⟩)]) rfl trivial (enters_of Try.func30 (by kernel_rfl) rfl)
    hst (fun h k => Kc.trans h k) (fun W l o o' _ h ho _ => Kc.book W l o o' h ho) (Below.refl _ _) (fun _ => rfl)
    (fun pre W => (∃ v, Boxed W (w.heap.size + 1 + 1 + 1) 28 v ∧ W.ownsRow w.heap.size 3 1 v pre.length (ivs (vals18 S pre)) ∧ True) ∧ Boxed W (w.heap.size + 1) 34 (.func (.func 18) #[] #[.pointer (some ⟨q, 0, none⟩)]) ∧ Cbox W (w.heap.size + 1 + 1 + 1 + 1) x z ∧ Below w.heap.size w W)
    (fun _ _ _ => False)
    (OwnFrom.and (Own.from (holdsRow_own w.heap.size (w.heap.size + 1 + 1 + 1) 28 3 1 (fun pre : List P2 => pre.length) (fun pre => ivs (vals18 S pre)) (fun _ _ => True)) _) (OwnFrom.and (Own.from (boxed_own (w.heap.size + 1) 34 (fun _ : List P2 => .func (.func 18) #[] #[.pointer (some ⟨q, 0, none⟩)])) _) (OwnFrom.and (fun _ X Y row hs hg hr => cells_kept hg hr hs) (ownFrom_below (Nat.le_refl _) (by have := Hsz.out; omega)))))
    (fun _ _ _ _ _ hs _ _ => hs)
    ⟨⟨_, bV, hR0, trivial⟩, bF, bC, hb0⟩
    (fun p a' _ => a' = { tmps := #[Value.agg #[Value.int IntKind.i64 x, Value.int IntKind.i64 z], Value.func (Fn.func 18) #[] #[Value.pointer (some { block := q, off := 0 })], Value.pointer (some { block := w.heap.size, off := 0 }), Value.pointer (some { block := w.heap.size + 1, off := 0 }), Value.slice none 0 0, Value.pointer (some { block := w.heap.size + 1 + 1 + 1, off := 0 }), .int .i64 p.x, .int .i64 p.z, Value.slice (some { block := w.heap.size + 1 + 1, off := 0 }) 0 256, Value.agg #[Value.int IntKind.i64 x, Value.int IntKind.i64 z], Value.func (Fn.func 30) #[] #[Value.pointer (some { block := w.heap.size + 1 + 1 + 1 + 1, off := 0 })], .int .i64 p.x, .int .i64 p.z, undef, undef, undef, undef, undef, undef, undef, undef], defers := [] })
    (fun p a' _ X Y row hs hg hr => hs)
    ?assign ?body ?done ?stop
  case assign =>
    rintro l pre p W K hI hK
    have HK : Hid (∀ a' W', _ → _ → _ → _ → K a' W') := hK
    have HI : Hid _ := hI
    clear hK hI
    gi_wp2
    exact HK.out _ _ (KeepsFrom.refl _ _) (Kc.refl _ _) HI.out rfl
  case body =>
    rintro l pre p a' W _ _ ⟨⟨v, hv, hrow, _⟩, hbF, hbC, hB⟩ rfl hlt
    obtain ⟨av, cv, rfl⟩ := row_slice hrow
    gi_wp2_with (fail)
    refine region_round_L (Reads2 (w.heap.size + 1) (w.heap.size + 1 + 1 + 1) (.func (.func 18) #[] #[.pointer (some ⟨q, 0, none⟩)]) (.slice av pre.length cv)) 7 (by kernel_rfl) (by kernel_rfl) (by rintro ⟨_, _, h⟩; exact h) ?_
    have hd0 : Below W.heap.size W W.drew := (Below.refl _ W).drew
    have hHeld : Reads2 (w.heap.size + 1) (w.heap.size + 1 + 1 + 1) (.func (.func 18) #[] #[.pointer (some ⟨q, 0, none⟩)]) (.slice av pre.length cv) W.drew := ⟨hbF, hv⟩
    have Hrow : Hid (W.drew.ownsRow w.heap.size 3 1 (.slice av pre.length cv) pre.length (ivs (vals18 S pre))) := ownsRow_on hrow hd0
    have HC : Hid (Cbox W.drew (w.heap.size + 1 + 1 + 1 + 1) x z) := hbC
    have HB : Hid (Below w.heap.size w W.drew) := hB.drew
    have HD : Hid (Below W.heap.size W W.drew) := hd0
    clear hd0 hv hrow hbF hbC hB
    generalize W.drew = va at *
    have hne : Nonempty (Sub (Reads2 (w.heap.size + 1) (w.heap.size + 1 + 1 + 1) (.func (.func 18) #[] #[.pointer (some ⟨q, 0, none⟩)]) (.slice av pre.length cv))) := ⟨⟨_, hHeld⟩⟩
    have k0 : ∀ s : Sub (Reads2 (w.heap.size + 1) (w.heap.size + 1 + 1 + 1) (.func (.func 18) #[] #[.pointer (some ⟨q, 0, none⟩)]) (.slice av pre.length cv)), s.w.cell? ⟨w.heap.size + 1, 0, none⟩ = some (.func (.func 18) #[] #[.pointer (some ⟨q, 0, none⟩)]) := fun s => s.ok.f.cell
    have k1 : ∀ s : Sub (Reads2 (w.heap.size + 1) (w.heap.size + 1 + 1 + 1) (.func (.func 18) #[] #[.pointer (some ⟨q, 0, none⟩)]) (.slice av pre.length cv)), s.w.cell? ⟨w.heap.size + 1 + 1 + 1, 0, none⟩ = some (.slice av pre.length cv) := fun s => s.ok.v.cell
    refine take_L (i := 0) rfl (by kernel_rfl) (by kernel_rfl) (by kernel_rfl) (by kernel_rfl) (fun _ _ _ _ h => h) (by exact hHeld) (fun K hK => ?_)
    go_simp
    refine hK _ ?_
    clear hK K
    refine take_L (i := 1) rfl (by kernel_rfl) (by kernel_rfl) (by kernel_rfl) (by kernel_rfl) (fun _ _ _ _ h => h) (by exact hHeld) (fun K hK => ?_)
    go_simp
    refine hK _ ?_
    clear hK K
    refine take_L (i := 2) rfl (by kernel_rfl) (by kernel_rfl) (by kernel_rfl) (by kernel_rfl) (fun _ _ _ _ h => h) (by exact hHeld) (fun K hK => ?_)
    go_simp
    refine hK _ ?_
    clear hK K
    refine take_L (i := 3) rfl (by kernel_rfl) (by kernel_rfl) (by kernel_rfl) (by kernel_rfl) (fun _ _ _ _ h => h) (by exact hHeld) (fun K hK => ?_)
    go_simp
    refine hK _ ?_
    clear hK K
    refine one_L (i := 4) (by kernel_rfl) rfl (fun K hK => ?_)
    go_simp
    refine (clos_18 S q p.x p.z va hS p.hx p.hz (boxed_on Hq.out (HB.out.mono (Nat.le_refl _)))).mono ?_
    rintro _ w1 ⟨rfl, hb1⟩
    replace hHeld : Reads2 (w.heap.size + 1) (w.heap.size + 1 + 1 + 1) (.func (.func 18) #[] #[.pointer (some ⟨q, 0, none⟩)]) (.slice av pre.length cv) w1 := ⟨boxed_on hHeld.f hb1, boxed_on hHeld.v hb1⟩
    refine hK.out _ _ (fun _ => hHeld) ?_
    clear hK K hne k0 k1
    have Hrow1 : Hid (w1.ownsRow w.heap.size 3 1 (.slice av pre.length cv) pre.length (ivs (vals18 S pre))) := ownsRow_on Hrow.out hb1
    have HC1 : Hid (Cbox w1 (w.heap.size + 1 + 1 + 1 + 1) x z) := cbox_on HC.out hb1
    have HB1 : Hid (Below w.heap.size w w1) := HB.out.trans (hb1.mono HB.out.size)
    have HD1 : Hid (Below W.heap.size W w1) := HD.out.trans (hb1.mono HD.out.size)
    clear Hrow HC HB HD hb1
    have Hvs : Hid (vals18 S (pre ++ [p]) = vals18 S pre ++ [bandOf S p.x p.z]) := vals18_snoc S pre p
    generalize bandOf S p.x p.z = y at *
    refine one_L (i := 5) (by kernel_rfl) rfl (fun K hK => ?_)
    go_simp
    refine hK.out _ _ (fun _ => ⟨hHeld.f.alloc _, hHeld.v.alloc _⟩) ?_
    clear hK K
    refine one_W (i := 6) (by kernel_rfl) rfl (fun K hK => ?_)
    refine wpList_append_int rfl _ _ rfl w.heap.size av pre.length cv (vals18 S pre) (vals18_len S pre) rfl (by unfold OwnI; rw [vals18_len]; exact Hrow1.out.alloc _) ⟨w1.heap.size, 0, none⟩ y rfl (cell_one_int _ _ _) (by omega) (by have := HB1.out.size; simp; omega) ?_
    intro a3 c3 w3 HO3 hg3 _
    obtain ⟨hv1, hv2, hr2, hk2, hb2⟩ := hHeld.v.appended (by decide) Hrow1.out HB1.out.size (by omega) (show w3.ownsRow w.heap.size 3 1 (.slice a3 (pre.length + 1) c3) (pre.length + 1) (ivs (vals18 S pre ++ [y])) by
      have := HO3.out
      unfold OwnI at this
      rwa [List.length_append, vals18_len] at this) hg3
    have hF3 : Boxed w3 (w.heap.size + 1) 34 (.func (.func 18) #[] #[.pointer (some ⟨q, 0, none⟩)]) := (hHeld.f.alloc _).kept hg3 (Boxed.not_row hHeld.f (by decide) Hrow1.out)
    refine hK.out _ _ (fun _ => ⟨hF3, hv1⟩) ?_
    clear hK K
    have hKc : Kc (w.heap.size + 1 + 1 + 1 + 1) w1 (w3.setCell ⟨w.heap.size + 1 + 1 + 1, 0, none⟩ (.slice a3 (pre.length + 1) c3)) := by
      refine ((Kc.grow (World.grownBy_alloc w1 _ none)).trans (Kc.row hg3 (fun r hr => ?_))).trans (Kc.set (by omega))
      obtain ⟨_, cs, h2⟩ := row_block (Hrow1.out.alloc (.cells #[.int .i64 y] 3)) r hr
      intro e
      rw [e, show (w1.alloc _).heap[w.heap.size + 1 + 1 + 1 + 1]? = _ from HC1.out.alloc _] at h2
      cases h2
    have HX : Hid (KeepsFrom W0.heap.size W (w3.setCell ⟨w.heap.size + 1 + 1 + 1, 0, none⟩ (.slice a3 (pre.length + 1) c3)) ∧ Kc (w.heap.size + 1 + 1 + 1 + 1) W (w3.setCell ⟨w.heap.size + 1 + 1 + 1, 0, none⟩ (.slice a3 (pre.length + 1) c3)) ∧ ((∃ v, Boxed (w3.setCell ⟨w.heap.size + 1 + 1 + 1, 0, none⟩ (.slice a3 (pre.length + 1) c3)) (w.heap.size + 1 + 1 + 1) 28 v ∧ (w3.setCell ⟨w.heap.size + 1 + 1 + 1, 0, none⟩ (.slice a3 (pre.length + 1) c3)).ownsRow w.heap.size 3 1 v (pre ++ [p]).length (ivs (vals18 S (pre ++ [p]))) ∧ True) ∧ Boxed (w3.setCell ⟨w.heap.size + 1 + 1 + 1, 0, none⟩ (.slice a3 (pre.length + 1) c3)) (w.heap.size + 1) 34 (.func (.func 18) #[] #[.pointer (some ⟨q, 0, none⟩)]) ∧ Cbox (w3.setCell ⟨w.heap.size + 1 + 1 + 1, 0, none⟩ (.slice a3 (pre.length + 1) c3)) (w.heap.size + 1 + 1 + 1 + 1) x z ∧ Below w.heap.size w (w3.setCell ⟨w.heap.size + 1 + 1 + 1, 0, none⟩ (.slice a3 (pre.length + 1) c3)))) := by
      refine ⟨(keeps_below HD1.out).trans (hk2.from _), (Kc.below HD1.out).trans hKc, ⟨_, hv2, ?_, trivial⟩, hF3.other (by omega) _, hKc _ _ _ HC1.out, HB1.out.trans hb2⟩
      rw [Hvs.out, List.length_append]
      exact hr2
    have c1 := hv1.cell
    have f1 := hv1.frozen
    clear hKc hv2 hr2 hk2 hb2 HO3 hg3 hF3 hv1 HC1 HB1 HD1 Hrow1 hHeld Hvs
    refine one_L (i := 7) (by kernel_rfl) rfl (fun K hK => ?_)
    go_simp
    refine hK.out _ _ (fun h => absurd rfl h) ?_
    clear hK K c1 f1
    refine done_L (by kernel_rfl) ?_ _
    generalize w3.setCell ⟨w.heap.size + 1 + 1 + 1, 0, none⟩ (.slice a3 (pre.length + 1) c3) = vc at *
    gi_wp2
    exact HX.out
  case done =>
    rintro D ys W hD hq ⟨⟨v, hv, hrow, _⟩, _, _, hB⟩ hK
    have hc := hv.cell
    have hlen : ys.length = 256 := by rw [← ps_len, hq, colsL_len]
    have Hr : Hid (∃ a c, v = .slice a 256 c ∧ Below w.heap.size w (W.putObj D (.deferred none)) ∧ ColsAt (W.putObj D (.deferred none)) a (mapB S x z)) := by
      have hR := ownsRow_putObj hrow (.deferred none) hK rfl
      rw [hlen] at hR
      rw [vals18_all S x z ys hq] at hR
      obtain ⟨a, c, rfl⟩ := row_slice hR
      have hml : (mapB S x z).length = 256 := mapB_len S x z
      refine ⟨a, c, rfl, hB.trans (belowK_b (w := W0) hb0.size W D _ (.deferred none) hD hK rfl rfl), ?_⟩
      have hO : OwnI (W.putObj D (.deferred none)) w.heap.size a c (mapB S x z) := by unfold OwnI; rw [hml]; exact hR
      exact hO.cols (by rw [hml]; omega)
    clear hv hrow hB
    gi_wp2
    refine ⟨by simp, .inl ⟨_, _, rfl, run_takeDeferred hK, ?_⟩⟩
    obtain ⟨a, c, rfl, h1, h2⟩ := Hr.out
    exact ⟨_, results_tmp rfl _ _ _, h1, a, c, rfl, h2⟩
  case stop =>
    rintro D c pre W _ _ h _
    exact h.elim

theorem map_c (S : Nat) (x z : Int) (w : World) (hS : S < 18446744073709551616) (hx : Far 1073741825 x) (hz : Far 1073741825 z) :
    Calls Try.prog 12 #[.int .u64 S, .agg #[.int .i64 x, .int .i64 z]] w fun e w' => Below w.heap.size w w' ∧ ∃ a c a' c', e = .returned (.tuple #[.slice a 256 c, .slice a' 256 c']) ∧ ColsAt w' a (mapH S x z) ∧ ColsAt w' a' (mapB S x z) := by
  have hm1 : ∀ w q, Sem.run Try.prog (Instr.makeFunc (.func 17) #[] #[.pointer (some ⟨q, 0, none⟩)]) w = .ok (.func (.func 17) #[] #[.pointer (some ⟨q, 0, none⟩)]) w := fun w q => by rfl
  have hm2 : ∀ w q, Sem.run Try.prog (Instr.makeFunc (.func 18) #[] #[.pointer (some ⟨q, 0, none⟩)]) w = .ok (.func (.func 18) #[] #[.pointer (some ⟨q, 0, none⟩)]) w := fun w q => by rfl
  have hb0 : Below w.heap.size w ((w.alloc (.cells #[.int .u64 S] 22)).alloc (.cells #[.int .i64 x, .int .i64 z] 27)) := ((Below.refl _ w).alloc (Nat.le_refl _) _).alloc (by simp) _
  have bS : Boxed ((w.alloc (.cells #[.int .u64 S] 22)).alloc (.cells #[.int .i64 x, .int .i64 z] 27)) w.heap.size 22 (.int .u64 S) := (Boxed.new w 22 _).alloc _
  have bC : Cbox ((w.alloc (.cells #[.int .u64 S] 22)).alloc (.cells #[.int .i64 x, .int .i64 z] 27)) (w.heap.size + 1) x z := by
    have := heap_alloc_new (w.alloc (.cells #[.int .u64 S] 22)) (.cells #[.int .i64 x, .int .i64 z] 27)
    rw [World.size_alloc] at this
    exact this
  have Hb0 : Hid (Below w.heap.size w ((w.alloc (.cells #[.int .u64 S] 22)).alloc (.cells #[.int .i64 x, .int .i64 z] 27))) := hb0
  have HS : Hid (Boxed ((w.alloc (.cells #[.int .u64 S] 22)).alloc (.cells #[.int .i64 x, .int .i64 z] 27)) w.heap.size 22 (.int .u64 S)) := bS
  have HC : Hid (Cbox ((w.alloc (.cells #[.int .u64 S] 22)).alloc (.cells #[.int .i64 x, .int .i64 z] 27)) (w.heap.size + 1) x z) := bC
  clear hb0 bS bC
  obtain ⟨L1, hL1⟩ : ∃ L1, mapH S x z = L1 := ⟨_, rfl⟩
  obtain ⟨L2, hL2⟩ : ∃ L2, mapB S x z = L2 := ⟨_, rfl⟩
  have A1 := fun w q h => ask_17 S q x z w hS hx hz h
  have A2 := fun w q h => ask_18 S q x z w hS hx hz h
  rw [hL1] at A1 ⊢
  rw [hL2] at A2 ⊢
  clear hL1 hL2
  have HA1 : Hid (∀ w q, Boxed w q 22 (.int .u64 S) → _) := A1
  have HA2 : Hid (∀ w q, Boxed w q 22 (.int .u64 S) → _) := A2
  clear A1 A2
  go_enter Try.func12, Try.ntmps12
  go_wp2_with fail
  refine (HA1.out _ _ HS.out).mono ?_
  rintro _ w1 ⟨hb1, a1, c1, rfl, hc1⟩
  have HS1 : Hid (Boxed w1 w.heap.size 22 (.int .u64 S)) := boxed_on HS.out hb1
  have hC1 : Cbox w1 (w.heap.size + 1) x z := cbox_on HC.out hb1
  have Hb1 : Hid (Below w.heap.size w w1) := Hb0.out.trans (hb1.mono Hb0.out.size)
  have Hc1 : Hid (ColsAt w1 a1 L1) := hc1
  clear hb1 hc1 HA1 HS HC Hb0
  obtain ⟨k0, k1⟩ := hC1.cells
  clear hC1
  go_wp2_with fail
  refine (HA2.out _ _ HS1.out).mono ?_
  rintro _ w2 ⟨hb2, a2, c2, rfl, hc2⟩
  have Hb2 : Hid (Below w.heap.size w w2) := Hb1.out.trans (hb2.mono Hb1.out.size)
  have Hc2 : Hid (ColsAt w2 a1 L1 ∧ ColsAt w2 a2 L2) := ⟨Hc1.out.on hb2, hc2⟩
  clear hb2 hc2 HA2 HS1 Hb1 Hc1 k0 k1
  go_wp2
  refine bodyPost_ret (results_tmp2 (t := 4) (u := 5) rfl _ _ _) rfl ⟨Hb2.out, _, _, _, _, rfl, Hc2.out.1, Hc2.out.2⟩
theorem hspec : HSpec := ⟨of_c, band_c, map_c⟩
end Go.Proofs.Ytbbhnhmheakapaa
