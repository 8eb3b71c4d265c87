/-
  The program's disk: a block is kept.
-/
import Derived.Test.YtdjhlpllffakpaaPread
import Derived.Lib.MinMax
set_option maxRecDepth 20000
namespace Go.Proofs.Ytdjhlpllffakpaa
open Go.RowKit Go.Maps

/-- The disk's head. -/
abbrev headOf (mb ml : Option Nat) (S : St) : Obj := .cells #[.map mb, .map ml, .int .i64 S.writes, .int .i64 S.lf, .bool S.out] 66 (0, 0)
/-- Both maps are there; the file lies in its box; the bytes are as they were. -/
structure Made (F : Nat → Prop) (w w1 : World) (g : Nat) (S : St) (b l : Nat) (n : Nat) (Db Dl : DataW Unit) (f1 f2 f3 : Int) : Prop where
  head : w1.heap[g]? = some (headOf (some b) (some l) S)
  mb : w1.ownsMap Try.prog 90 blkElem b n Db
  ml : w1.ownsMap Try.prog 29 (plainElem Try.prog 3) l n Dl
  ne : b ≠ g ∧ l ≠ g ∧ b ≠ l
  inF : (F b ∨ w.heap.size ≤ b) ∧ (F l ∨ w.heap.size ≤ l) ∧ F g
  chg : Chg F w w1
  box : w1.heap[w.heap.size]? = some (.cells #[.int .i64 f1, .int .i64 f2, .int .i64 f3] 29 (0, 0))
theorem Made.on {F : Nat → Prop} {w w1 w2 : World} {g : Nat} {S : St} {b l n : Nat} {Db Dl : DataW Unit} {f1 f2 f3 : Int} (h : Made F w w1 g S b l n Db Dl f1 f2 f3) (hb : Below w1.heap.size w1 w2) : Made F w w2 g S b l n Db Dl f1 f2 f3 :=
  ⟨(hb.block g (Array.getElem?_eq_some_iff.1 h.head).1).trans h.head, ownsMap_same h.mb (hb.block b h.mb.lt), ownsMap_same h.ml (hb.block l h.ml.lt), h.ne, h.inF, h.chg.trans (F := F) (G := F) (Chg.of_below hb) (fun _ h => Or.inl h), (hb.block _ (Array.getElem?_eq_some_iff.1 h.box).1).trans h.box⟩
theorem Made.drew {F : Nat → Prop} {w w1 : World} {g : Nat} {S : St} {b l n : Nat} {Db Dl : DataW Unit} {f1 f2 f3 : Int} (h : Made F w w1 g S b l n Db Dl f1 f2 f3) : Made F w w1.drew g S b l n Db Dl f1 f2 f3 :=
  ⟨h.head, h.mb, h.ml, h.ne, h.inF, ⟨h.chg.os, h.chg.tape, h.chg.output, h.chg.size, h.chg.block⟩, h.box⟩
theorem Made.cells {F : Nat → Prop} {w w1 : World} {g : Nat} {S : St} {b l n : Nat} {Db Dl : DataW Unit} {f1 f2 f3 : Int} (h : Made F w w1 g S b l n Db Dl f1 f2 f3) :
    w1.cell? ⟨g, 0, none⟩ = some (.map (some b)) ∧ w1.cell? ⟨g, 1, none⟩ = some (.map (some l)) ∧ w1.cell? ⟨w.heap.size, 0, none⟩ = some (.int .i64 f1) ∧ w1.cell? ⟨w.heap.size, 1, none⟩ = some (.int .i64 f2) ∧ w1.cell? ⟨w.heap.size, 2, none⟩ = some (.int .i64 f3) := by
  refine ⟨?_, ?_, ?_, ?_, ?_⟩
  · rw [cell_of_row w1 g 0 _ 66 (0, 0) h.head]; rfl
  · rw [cell_of_row w1 g 1 _ 66 (0, 0) h.head]; rfl
  · rw [cell_of_row w1 _ 0 _ 29 (0, 0) h.box]; rfl
  · rw [cell_of_row w1 _ 1 _ 29 (0, 0) h.box]; rfl
  · rw [cell_of_row w1 _ 2 _ 29 (0, 0) h.box]; rfl
/-- A store into the map of blocks. -/
theorem Made.blk {F : Nat → Prop} {w w1 w2 : World} {g : Nat} {S : St} {b l n : Nat} {Db Dl Db' : DataW Unit} {f1 f2 f3 : Int} (h : Made F w w1 g S b l n Db Dl f1 f2 f3) (ho : w2.ownsMap Try.prog 90 blkElem b (n + 1) Db') (hg : w1.grownBy w2 (some b)) (hlt : w.heap.size < w1.heap.size) (hbw : b ≠ w.heap.size) : Made F w w2 g S b l (n + 1) Db' Dl f1 f2 f3 := by
  have old : ∀ k, k < w1.heap.size → k ≠ b → w2.heap[k]? = w1.heap[k]? := fun k hk hne => hg.block k hk (fun e => hne (by simpa using e))
  refine ⟨(old g (Array.getElem?_eq_some_iff.1 h.head).1 (fun e => h.ne.1 e.symm)).trans h.head, ho, (ownsMap_same h.ml (old l h.ml.lt (fun e => h.ne.2.2 e.symm))).mono (Nat.le_succ _), h.ne, h.inF, ⟨hg.os.trans h.chg.os, hg.tape.trans h.chg.tape, hg.output.trans h.chg.output, Nat.le_trans h.chg.size hg.size, fun k hk hF => ?_⟩, (old _ hlt (fun e => hbw e.symm)).trans h.box⟩
  rw [old k (Nat.lt_of_lt_of_le hk h.chg.size) (fun e => ?_)]
  · exact h.chg.block k hk hF
  · subst e
    rcases h.inF.1 with h1 | h1
    · exact hF h1
    · omega
theorem Made.len {F : Nat → Prop} {w w1 w2 : World} {g : Nat} {S : St} {b l n : Nat} {Db Dl Dl' : DataW Unit} {f1 f2 f3 : Int} (h : Made F w w1 g S b l n Db Dl f1 f2 f3) (ho : w2.ownsMap Try.prog 29 (plainElem Try.prog 3) l (n + 1) Dl') (hg : w1.grownBy w2 (some l)) (hlt : w.heap.size < w1.heap.size) (hbw : l ≠ w.heap.size) : Made F w w2 g S b l (n + 1) Db Dl' f1 f2 f3 := by
  have old : ∀ k, k < w1.heap.size → k ≠ l → w2.heap[k]? = w1.heap[k]? := fun k hk hne => hg.block k hk (fun e => hne (by simpa using e))
  refine ⟨(old g (Array.getElem?_eq_some_iff.1 h.head).1 (fun e => h.ne.2.1 e.symm)).trans h.head, (ownsMap_same h.mb (old b h.mb.lt h.ne.2.2)).mono (Nat.le_succ _), ho, h.ne, h.inF, ⟨hg.os.trans h.chg.os, hg.tape.trans h.chg.tape, hg.output.trans h.chg.output, Nat.le_trans h.chg.size hg.size, fun k hk hF => ?_⟩, (old _ hlt (fun e => hbw e.symm)).trans h.box⟩
  rw [old k (Nat.lt_of_lt_of_le hk h.chg.size) (fun e => ?_)]
  · exact h.chg.block k hk hF
  · subst e
    rcases h.inF.2.1 with h1 | h1
    · exact hF h1
    · omega
/-- A block of cells is no map. -/
theorem not_map {w : World} {b n k : Nat} {t : TypeId} {R : Value → Option (DataW Unit × List MemPlace)} {D : DataW Unit} {cs : Array Value} {ct : TypeId} (h : w.ownsMap Try.prog t R b n D) (hk : w.heap[k]? = some (.cells cs ct (0, 0))) : b ≠ k := fun e => by
  obtain ⟨es, c, hb, _⟩ := h
  rw [e, hk] at hb
  cases hb
/-- What keep leaves. -/
def KeepSay (F : Nat → Prop) (g : Nat) (S : St) (f : Fl) (i : Int) (bs : List Int) (w : World) (e : Ending) (w' : World) : Prop :=
  e = .returned (.tuple #[]) ∧ Chg F w w' ∧ ∃ mb ml, w'.heap[g]? = some (headOf mb ml S) ∧ PMaps (fun k => F k ∨ (w.heap.size ≤ k ∧ k < w'.heap.size)) w' g { S with l := put S.l f i bs, writes := S.writes + 1 } mb ml
theorem step_mapUpdate {ops : Array Oper} {o : Oper} {a : Act} {w : World} {K : Act → World → Prop} {Q : Exit → Act → World → Prop} {E : Prop} (hgd : o.guard = none) (m x v : Operand) (t k e : TypeId) (hop : o.op = Op.mapUpdate t m x v) (hk : Keyed Try.prog k) (ht : Try.prog.underlying t = some (.map k e))
    (R : Value → Option (DataW Unit × List MemPlace)) (b n : Nat) (D : DataW Unit) (key val : Value) (kl : Lit) (d : DataW Unit) (hm : a.eval m = .map (some b)) (hown : w.ownsMap Try.prog k R b n D) (hn : n < maxLen) (hx : a.eval x = key) (hv : a.eval v = val) (hkey : keyOf Try.prog k key = some kl) (hval : R val = some (d, []))
    (hK : ∀ w', w'.ownsMap Try.prog k R b (n + 1) (D.put kl d) → w.grownBy w' (some b) → K (a.put o.dst undef) w') :
    if Region.wanted o (yielded ops a.tmps) = true then Oper.wp Try.prog o a w K Q else E := by
  refine step_plain hgd ?_
  obtain ⟨w', hrun, r1, r2⟩ := hown.update hk ht hn hkey hval
  unfold Oper.wp
  simp [execOp, hop, hm, hx, hv, hrun, Result.andThen]
  exact hK w' r1 r2
/-- copy of 32 bytes over a whole block of 32. -/
theorem wpList_copy_blk {w : World} {ops : Array Oper} {rest : List Oper} {o : Oper} {a : Act} {Q : Exit → Act → World → Prop} (hgd : o.guard = none) (d s : Operand)
    (ho : o.op = .call { callee := .builtin .copy, args := #[d, s], argTypes := #[25, 25] }) (g : Nat) (sp : Option Addr) (sCap : Nat) (hd : a.eval d = .slice (some ⟨g, 0, none⟩) 32 32) (hs : a.eval s = .slice sp 32 sCap)
    (t : TypeId) (zs xs : List Int) (hR : Blk w g t zs) (hz : zs.length = 32) (hX : Bytes w sp 32 xs) (B : Nat) (w0 : World) (hb : Below B w0 w) (hBg : B ≤ g)
    (h : ∀ w', Hid (Blk w' g t xs) → Below B w0 w' → wpList Try.prog ops Q rest (a.put o.dst (goInt 32)) w') : wpList Try.prog ops Q (o :: rest) a w := by
  have hn := hX.n
  obtain ⟨i, hi, hz0, hz1, hz2⟩ := info_parts Try.info5
  refine wpList_copy_splice hgd d s 25 25 ho 5 Try.underlying25 (by rw [hi]; simp [hz1]) _ sp 32 32 32 sCap hd hs g 0 (zs.map (Value.int .u8)) t hR (xs.map (Value.int .u8)) (by rw [List.length_map, hn]; rfl) ?_ (by simp; omega) (ints_oneCell _ _) B w0 hb hBg ?_
  · intro hp
    rcases hX.cells with e | ⟨b, off, e, hc⟩
    · simp [e] at hp
    · refine ⟨rfl, _, e, fun j v hj => ?_⟩
      obtain ⟨hj', hv⟩ := List.getElem?_eq_some_iff.1 hj
      rw [List.length_map] at hj'
      rw [Addr.add_lit, hc j hj', ← hv]
      simp
  · intro w' hw hbel
    rw [List.length_map, hn]
    refine h w' ?_ hbel
    have hw := hw.out
    show Blk _ _ _ _
    unfold Blk
    rw [hw]
    have e : splice (zs.map (Value.int .u8)) 0 (xs.map (Value.int .u8)) = xs.map (Value.int .u8) := by
      simp [splice, hn]
      omega
    rw [e]
    rfl
/-- Bytes do not lie in a disk's head. -/
theorem bytes_ne {w : World} {g : Nat} {mb ml : Option Nat} {S : St} {sa : Option Addr} {bs : List Int} (h : Bytes w sa 32 bs) (hh : w.heap[g]? = some (headOf mb ml S)) : ∃ p off, sa = some ⟨p, off, none⟩ ∧ p ≠ g := by
  obtain ⟨p, off, z, e, hc, _⟩ := h.get 0 (by omega)
  refine ⟨p, off, e, fun he => ?_⟩
  subst he
  rw [cell_of_row w p _ _ 66 (0, 0) hh] at hc
  obtain ⟨hl, hc⟩ := Array.getElem?_eq_some_iff.1 hc
  have hl' : off + 0 < 5 := hl
  generalize off + 0 = j at *
  match j, hl' with
  | 0, _ => cases hc
  | 1, _ => cases hc
  | 2, _ => cases hc
  | 3, _ => cases hc
  | 4, _ => cases hc

theorem eq63_some (b : Nat) (w : World) : (binOp .eql 63 (.map (some b)) (.map none)).run Try.prog w = .ok (.bool false) w := by kernel_rfl
theorem eq63_none (w : World) : (binOp .eql 63 (.map none) (.map none)).run Try.prog w = .ok (.bool true) w := by kernel_rfl
theorem look_len {w : World} {l n : Nat} {Db Dl : DataW Unit} {L : List Bk} (h : w.ownsMap Try.prog 29 (plainElem Try.prog 3) l n Dl) (h2 : Holds2 L Db Dl) {f : Fl} (hf : I64F f) : (Instr.lookup 64 (.map (some l)) (valF f) false).run Try.prog w = .ok (.int .i64 (lenOf (at_ L) f)) w := by
  obtain ⟨c, hrun, hat, _⟩ := h.lookup_int lawF Try.underlying64 Try.underlying3 (zero3 w) (keyF f hf)
  rw [h2.len f hf] at hat
  simp only [DataW.lit.injEq, Lit.int.injEq, true_and] at hat
  rw [hrun, hat]
theorem len_bd {l : List Bk} (h : Good l) (f : Fl) : 0 ≤ lenOf (at_ l) f ∧ lenOf (at_ l) f ≤ 4096 := by
  rcases lenOf_is (f := f) (fun q hq => (h.at_ q hq).1) with ⟨e, _⟩ | ⟨j, hj, e⟩
  · omega
  · have := h.at_ _ hj
    simp only at this
    omega
/-- In the region that stores a block. -/
def AtB (F : Nat → Prop) (w : World) (g : Nat) (S : St) (b l n : Nat) (Db Dl : DataW Unit) (f1 f2 f3 : Int) (B : Nat) (bs : List Int) (w' : World) : Prop := Made F w w' g S b l n Db Dl f1 f2 f3 ∧ Blk w' B 88 bs
theorem Made.keepSay {F : Nat → Prop} {w w1 : World} {g : Nat} {S : St} {b l n : Nat} {Db Dl Db' Dl' : DataW Unit} {f1 f2 f3 i : Int} {bs : List Int} (h : Made F w w1 g S b l n Db' Dl' f1 f2 f3) (hb : b < w1.heap.size) (hl : l < w1.heap.size) (hn : n ≤ (2 * (S.writes + 1)).toNat) (h2 : Holds2 S.l Db Dl) (hb' : IsMap Db) (hl' : IsMap Dl)
    (eb : Db' = Db.put (klP (f1, f2, f3) i) (dat bs)) (el : Dl' = Dl.put (klF (f1, f2, f3)) (.lit (.int .i64 (max (lenOf (at_ S.l) (f1, f2, f3)) (i + 1))))) (hf : I64F (f1, f2, f3)) (hi : I64 i) (hi0 : 0 ≤ i) : KeepSay F g S (f1, f2, f3) i bs w (.returned (.tuple #[])) w1 := by
  subst eb el
  refine ⟨rfl, h.chg, some b, some l, h.head, Or.inr ⟨b, l, _, _, rfl, rfl, h.mb.mono hn, h.ml.mono hn, h2.put hb' hl' hf hi hi0, ?_, ?_, h.ne⟩⟩
  · exact h.inF.1.imp id (fun h1 => ⟨h1, hb⟩)
  · exact h.inF.2.1.imp id (fun h1 => ⟨h1, hl⟩)

theorem new_maps (w0 : World) (g : Nat) (hg : g < w0.heap.size) (u v : Value) :
    ((((w0.alloc (.map #[] 0)).setCell ⟨g, 0, none⟩ u).alloc (.map #[] 0)).setCell ⟨g, 1, none⟩ v).ownsMap Try.prog 90 blkElem w0.heap.size 0 (.map []) ∧
    ((((w0.alloc (.map #[] 0)).setCell ⟨g, 0, none⟩ u).alloc (.map #[] 0)).setCell ⟨g, 1, none⟩ v).ownsMap Try.prog 29 (plainElem (H := Unit) Try.prog 3) (w0.heap.size + 1) 0 (.map []) ∧
    Chg (fun k => k = g) w0 ((((w0.alloc (.map #[] 0)).setCell ⟨g, 0, none⟩ u).alloc (.map #[] 0)).setCell ⟨g, 1, none⟩ v) ∧
    ((((w0.alloc (.map #[] 0)).setCell ⟨g, 0, none⟩ u).alloc (.map #[] 0)).setCell ⟨g, 1, none⟩ v).heap.size = w0.heap.size + 2 ∧
    ∀ k, k < w0.heap.size → k ≠ g → ((((w0.alloc (.map #[] 0)).setCell ⟨g, 0, none⟩ u).alloc (.map #[] 0)).setCell ⟨g, 1, none⟩ v).heap[k]? = w0.heap[k]? := by
  have h1 := World.ownsMap_made w0 Try.prog 90 blkElem
  have hs : ((w0.alloc (.map #[] 0)).setCell ⟨g, 0, none⟩ u).heap.size = w0.heap.size + 1 := by rw [World.size_setCell, World.size_alloc]
  have h2 := World.ownsMap_made ((w0.alloc (.map #[] 0)).setCell ⟨g, 0, none⟩ u) Try.prog 29 (plainElem (H := Unit) Try.prog 3)
  rw [hs] at h2
  have hk : ∀ k, k < w0.heap.size → k ≠ g → ((((w0.alloc (.map #[] 0)).setCell ⟨g, 0, none⟩ u).alloc (.map #[] 0)).setCell ⟨g, 1, none⟩ v).heap[k]? = w0.heap[k]? := fun k hk hne => by
    rw [Below.heap_setCell _ ⟨g, 1, none⟩ _ _ hne, heap_alloc_old _ _ (by rw [hs]; omega), Below.heap_setCell _ ⟨g, 0, none⟩ _ _ hne]
    exact heap_alloc_old w0 _ hk
  refine ⟨((h1.setCell (a := ⟨g, 0, none⟩) (by show _ ≠ g; omega) u).alloc _).setCell (a := ⟨g, 1, none⟩) (by show _ ≠ g; omega) v, h2.setCell (a := ⟨g, 1, none⟩) (by show _ ≠ g; omega) v, ⟨rfl, rfl, rfl, ?_, fun k hk' hne => hk k hk' hne⟩, ?_, hk⟩
  · rw [World.size_setCell, World.size_alloc, hs]; omega
  · rw [World.size_setCell, World.size_alloc, hs]
theorem wrapI {n : Int} (h : -9223372036854775808 ≤ n ∧ n ≤ 9223372036854775807) : IntKind.i64.wrap n = n := by
  simp [IntKind.wrap, IntKind.bits, IntKind.signed]
  omega

set_option maxHeartbeats 2000000 in
theorem keep_c (F : Nat → Prop) (g : Nat) (S : St) (f1 f2 f3 i : Int) (sa : Option Addr) (sc : Nat) (bs : List Int) (hf : I64F (f1, f2, f3)) (hi : 0 ≤ i ∧ i < 4096) (w : World) (hD : PDisk F w g S) (hFl : ∀ k, F k → k < w.heap.size) (hX : Bytes w sa 32 bs) (hw : S.writes < 1000000) :
    Calls Try.prog 28 #[.pointer (some ⟨g, 0, none⟩), .agg #[.int .i64 f1, .int .i64 f2, .int .i64 f3], .int .i64 i, .slice sa 32 sc] w (KeepSay F g S (f1, f2, f3) i bs w) := by
  obtain ⟨mb, ml, hD⟩ := hD
  obtain ⟨Post, hPost⟩ : ∃ Post, Post = KeepSay F g S (f1, f2, f3) i bs w := ⟨_, rfl⟩
  rw [← hPost]
  have HP : Hid (Post = KeepSay F g S (f1, f2, f3) i bs w) := hPost
  clear hPost
  have hgl := hD.glt
  obtain ⟨hb0, x0, x1, x2⟩ := box_new w f1 f2 f3
  have HX0 : Hid (Bytes (w.alloc (.cells #[.int .i64 f1, .int .i64 f2, .int .i64 f3] 29)) sa 32 bs) := hX.later hb0
  have HD0 := hD.inside hb0
  have HB0 : Hid (Below w.heap.size w (w.alloc (.cells #[.int .i64 f1, .int .i64 f2, .int .i64 f3] 29))) := hb0
  have HD : Hid (PD F (w.alloc (.cells #[.int .i64 f1, .int .i64 f2, .int .i64 f3] 29)) g S mb ml) := HD0
  have Hbox : Hid ((w.alloc (.cells #[.int .i64 f1, .int .i64 f2, .int .i64 f3] 29)).heap[w.heap.size]? = some (.cells #[.int .i64 f1, .int .i64 f2, .int .i64 f3] 29 (0, 0))) := heap_alloc_new w _
  have hs0 : w.heap.size + 1 = (w.alloc (.cells #[.int .i64 f1, .int .i64 f2, .int .i64 f3] 29)).heap.size := by rw [World.size_alloc]
  obtain ⟨cc0, cc1, _⟩ := HD0.cells
  have HFl : Hid (∀ k, F k → k < w.heap.size) := hFl
  have Hwr : Hid (0 ≤ S.writes ∧ S.writes < 1000000) := ⟨hD.bds.2.2.1, hw⟩
  have Hii : Hid (0 ≤ i ∧ i < 4096) := hi
  have hi1 : i < 4096 := hi.2
  have hwr : IntKind.i64.wrap (i + 1) = i + 1 := wrapI (by omega)
  have hi0 : 0 ≤ i := hi.1
  have HI64 : Hid (I64 i) := by show I64 i; unfold I64; omega
  have HL2 : Hid (0 ≤ lenOf (at_ S.l) (f1, f2, f3) ∧ lenOf (at_ S.l) (f1, f2, f3) ≤ 4096) := len_bd hD.ok _
  have hbs : bs.length = 32 := hX.n
  have hmm := @run_makeMap Try.prog
  have hes := eq63_some
  have hen := eq63_none
  clear hb0 HD0 hD hX x0 x1 x2 hFl hw hi
  go_enter Try.func28, Try.ntmps28
  go_upto_region 1 with fail
  generalize w.alloc (.cells #[.int .i64 f1, .int .i64 f2, .int .i64 f3] 29) = w0 at *
  rcases HD.out.maps with ⟨rfl, rfl, hl0⟩ | ⟨b, l, Db, Dl, rfl, rfl, hmb, hml, hh2, hFb, hFl, hbg, hlg, hbl⟩
  · have h0 := HD.out.head
    have ca : (w0.alloc (.map #[] 0)).cell? ⟨g, 0, none⟩ = some (.map none) := ((Below.refl w0.heap.size w0).alloc (Nat.le_refl _) _).cell (p := ⟨g, 0, none⟩) (by show g < _; omega) |>.trans cc0
    have ha : (w0.alloc (.map #[] 0)).heap[g]? = some (headOf none none S) := (heap_alloc_old w0 _ (by omega)).trans h0
    have fa : (w0.alloc (.map #[] 0)).frozen? ⟨g, 0, none⟩ = false := frozen_of_row _ g 0 _ 66 ha
    have hvb := heap_setCell_same _ g 0 _ 66 (.map (some w0.heap.size)) ha
    have hvc : (((w0.alloc (.map #[] 0)).setCell ⟨g, 0, none⟩ (.map (some w0.heap.size))).alloc (.map #[] 0)).heap[g]? = some (headOf (some w0.heap.size) none S) := (heap_alloc_old _ _ (by rw [World.size_setCell, World.size_alloc]; omega)).trans hvb
    have cvc : (((w0.alloc (.map #[] 0)).setCell ⟨g, 0, none⟩ (.map (some w0.heap.size))).alloc (.map #[] 0)).cell? ⟨g, 1, none⟩ = some (.map none) := by rw [cell_of_row _ g 1 _ 66 (0, 0) hvc]; rfl
    have fvc : (((w0.alloc (.map #[] 0)).setCell ⟨g, 0, none⟩ (.map (some w0.heap.size))).alloc (.map #[] 0)).frozen? ⟨g, 1, none⟩ = false := frozen_of_row _ g 1 _ 66 hvc
    have hvd := heap_setCell_same _ g 1 _ 66 (.map (some (w0.heap.size + 1))) hvc
    have Hn := new_maps w0 g (by omega) (.map (some w0.heap.size)) (.map (some (w0.heap.size + 1)))
    have HM : Hid (Made F w ((((w0.alloc (.map #[] 0)).setCell ⟨g, 0, none⟩ (.map (some w0.heap.size))).alloc (.map #[] 0)).setCell ⟨g, 1, none⟩ (.map (some (w0.heap.size + 1)))) g S w0.heap.size (w0.heap.size + 1) (2 * S.writes).toNat (.map []) (.map []) f1 f2 f3) :=
      ⟨hvd, Hn.1.mono (Nat.zero_le _), Hn.2.1.mono (Nat.zero_le _), ⟨by omega, by omega, by omega⟩, ⟨Or.inr (by omega), Or.inr (by omega), HD.out.inF⟩, (Chg.of_below (F := F) HB0.out).trans (G := fun k => k = g) Hn.2.2.1 (fun j hj => Or.inl (hj ▸ HD.out.inF)), (Hn.2.2.2.2 _ (by omega) (by omega)).trans Hbox.out⟩
    have H2 : Hid (Holds2 S.l (.map []) (.map [])) := by rw [hl0]; exact Holds2.empty
    have Him : Hid (IsMap (.map [] : DataW Unit) ∧ IsMap (.map [] : DataW Unit)) := ⟨isMap_empty, isMap_empty⟩
    have HX1 : Hid (Bytes ((((w0.alloc (.map #[] 0)).setCell ⟨g, 0, none⟩ (.map (some w0.heap.size))).alloc (.map #[] 0)).setCell ⟨g, 1, none⟩ (.map (some (w0.heap.size + 1)))) sa 32 bs) := by
      obtain ⟨p, off, e, hp⟩ := bytes_ne HX0.out h0
      subst e
      refine HX0.out.same (Hn.2.2.2.2 p ?_ hp)
      obtain ⟨_, _, _, e, hc, _⟩ := HX0.out.get 0 (by omega)
      cases e
      exact World.block_lt_of_cell? w0 _ hc
    have hszd := Hn.2.2.2.1
    have hbw : w0.heap.size ≠ w.heap.size := by omega
    have hlw : w0.heap.size + 1 ≠ w.heap.size := by omega
    clear cc1 ha hvb hvc hvd Hn HX0
    go_upto_region 4 with fail
    clear ca fa cvc fvc h0 HD hl0 HB0 Hbox cc0
    generalize (((w0.alloc (.map #[] 0)).setCell ⟨g, 0, none⟩ (.map (some w0.heap.size))).alloc (.map #[] 0)).setCell ⟨g, 1, none⟩ (.map (some (w0.heap.size + 1))) = wd at *
    have hlt0 : w.heap.size < wd.heap.size := by omega
    clear hszd hs0
    have HX0 : Hid (Bytes wd sa 32 bs) := HX1
    clear HX1
    generalize w0.heap.size + 1 = l at *
    generalize w0.heap.size = b at *
    generalize hDb : (DataW.map [] : DataW Unit) = Db at *
    clear hDb
    obtain ⟨Dl, hDl⟩ : ∃ Dl, Dl = Db := ⟨_, rfl⟩
    have HM0 : Hid (Made F w wd g S b l (2 * S.writes).toNat Db Dl f1 f2 f3) := by rw [hDl]; exact HM
    have H20 : Hid (Holds2 S.l Db Dl) := by rw [hDl]; exact H2
    have Him0 : Hid (IsMap Db ∧ IsMap Dl) := by rw [hDl]; exact Him
    clear HM H2 Him hDl
    have HM := HM0
    have H2 := H20
    have Him := Him0
    clear HM0 H20 Him0
    go_upto_region 5 with fail
    rw [show wd.alloc (.cells #[.int .u8 0, .int .u8 0, .int .u8 0, .int .u8 0, .int .u8 0, .int .u8 0, .int .u8 0, .int .u8 0, .int .u8 0, .int .u8 0, .int .u8 0, .int .u8 0, .int .u8 0, .int .u8 0, .int .u8 0, .int .u8 0, .int .u8 0, .int .u8 0, .int .u8 0, .int .u8 0, .int .u8 0, .int .u8 0, .int .u8 0, .int .u8 0, .int .u8 0, .int .u8 0, .int .u8 0, .int .u8 0, .int .u8 0, .int .u8 0, .int .u8 0, .int .u8 0] 88) = wd.alloc (.cells (vals (List.replicate 32 0)) 88) from rfl]
    have hb1 : Below wd.heap.size wd (wd.alloc (.cells (vals (List.replicate 32 0)) 88)) := (Below.refl _ _).alloc (Nat.le_refl _) _
    have HX1 : Hid (Bytes (wd.alloc (.cells (vals (List.replicate 32 0)) 88)) sa 32 bs) := HX0.out.later hb1
    have HN1 : Hid (Blk (wd.alloc (.cells (vals (List.replicate 32 0)) 88)) wd.heap.size 88 (List.replicate 32 0)) := Blk.new _ _ _
    have hs1 : wd.heap.size < (wd.alloc (.cells (vals (List.replicate 32 0)) 88)).heap.size := by rw [World.size_alloc]; omega
    have Hb1 : Hid (Below wd.heap.size wd (wd.alloc (.cells (vals (List.replicate 32 0)) 88))) := hb1
    clear hb1 HX0
    generalize wd.alloc (.cells (vals (List.replicate 32 0)) 88) = w1 at *
    obtain ⟨B, hB⟩ : ∃ B, B = wd.heap.size := ⟨_, rfl⟩
    rw [← hB] at Hb1 HN1 hs1 hlt0 ⊢
    have HB : Hid (B = wd.heap.size) := hB
    clear hB
    go_wp2_with (refine wpList_copy_blk rfl (.tmp 22) (.tmp 23) rfl B sa sc rfl rfl 88 _ bs HN1.out (by simp) HX1.out B wd Hb1.out (Nat.le_refl _) ?_; intro w2 HN2 hb2)
    have hb2' : Below wd.heap.size wd w2 := HB.out ▸ hb2
    have hs2 : wd.heap.size ≤ w2.heap.size := hb2'.size
    rw [HB.out] at hlt0
    refine region_L (AtB F w g S b l (2 * S.writes).toNat Db Dl f1 f2 f3 B bs) 8 (by kernel_rfl) ?_
    have HM2 : Hid (Made F w w2.drew g S b l (2 * S.writes).toNat Db Dl f1 f2 f3) := (HM.out.on hb2').drew
    have HN3 : Hid (Blk w2.drew B 88 bs) := HN2.out
    have hlt2 : w.heap.size < w2.drew.heap.size := Nat.lt_of_lt_of_le hlt0 hs2
    clear HM HN2 hb2 hb2' HX1 HN1 hs1 hs2 hlt0 Hb1
    generalize w2.drew = v1 at *
    have hHeld : (AtB F w g S b l (2 * S.writes).toNat Db Dl f1 f2 f3 B bs) _ := ⟨HM2.out, HN3.out⟩
    have hne : Nonempty (Sub (AtB F w g S b l (2 * S.writes).toNat Db Dl f1 f2 f3 B bs)) := ⟨⟨_, hHeld⟩⟩
    have k0 : ∀ s : Sub (AtB F w g S b l (2 * S.writes).toNat Db Dl f1 f2 f3 B bs), s.w.cell? ⟨g, 0, none⟩ = some (.map (some b)) := fun s => s.ok.1.cells.1
    have k1 : ∀ s : Sub (AtB F w g S b l (2 * S.writes).toNat Db Dl f1 f2 f3 B bs), s.w.cell? ⟨w.heap.size, 0, none⟩ = some (.int .i64 f1) := fun s => s.ok.1.cells.2.2.1
    have k2 : ∀ s : Sub (AtB F w g S b l (2 * S.writes).toNat Db Dl f1 f2 f3 B bs), s.w.cell? ⟨w.heap.size, 1, none⟩ = some (.int .i64 f2) := fun s => s.ok.1.cells.2.2.2.1
    have k3 : ∀ s : Sub (AtB F w g S b l (2 * S.writes).toNat Db Dl f1 f2 f3 B bs), s.w.cell? ⟨w.heap.size, 2, none⟩ = some (.int .i64 f3) := fun s => s.ok.1.cells.2.2.2.2
    refine take_L (i := 0) rfl (by kernel_rfl) (by kernel_rfl) (by kernel_rfl) (by kernel_rfl) (fun _ _ _ _ h => h) (by exact hHeld) (fun K hK => ?_)
    go_simp
    refine hK _ ?_
    clear hK K
    refine take_L (i := 1) rfl (by kernel_rfl) (by kernel_rfl) (by kernel_rfl) (by kernel_rfl) (fun _ _ _ _ h => h) (by exact hHeld) (fun K hK => ?_)
    go_simp
    refine hK _ ?_
    clear hK K
    refine take_L (i := 2) rfl (by kernel_rfl) (by kernel_rfl) (by kernel_rfl) (by kernel_rfl) (fun _ _ _ _ h => h) (by exact hHeld) (fun K hK => ?_)
    go_simp
    refine hK _ ?_
    clear hK K
    refine take_L (i := 3) rfl (by kernel_rfl) (by kernel_rfl) (by kernel_rfl) (by kernel_rfl) (fun _ _ _ _ h => h) (by exact hHeld) (fun K hK => ?_)
    go_simp
    refine hK _ ?_
    clear hK K
    refine take_L (i := 4) rfl (by kernel_rfl) (by kernel_rfl) (by kernel_rfl) (by kernel_rfl) (fun _ _ _ _ h => h) (by exact hHeld) (fun K hK => ?_)
    go_simp
    refine hK _ ?_
    clear hK K
    refine take_L (i := 5) rfl (by kernel_rfl) (by kernel_rfl) (by kernel_rfl) (by kernel_rfl) (fun _ _ _ _ h => h) (by exact hHeld) (fun K hK => ?_)
    go_simp
    refine hK _ ?_
    clear hK K
    refine take_L (i := 6) rfl (by kernel_rfl) (by kernel_rfl) (by kernel_rfl) (by kernel_rfl) (fun _ _ _ _ h => h) (by exact hHeld) (fun K hK => ?_)
    go_simp
    refine hK _ ?_
    clear hK K
    refine give_L (i := 7) (.agg (vals bs)) rfl (by kernel_rfl) (by kernel_rfl) (by kernel_rfl) (by kernel_rfl) (fun _ _ _ _ h => h) (by exact hHeld) (by rfl) (fun s => exec_load (p := .pointer (some ⟨B, 0, none⟩)) rfl rfl (s.ok.2.load hbs)) ?_
    refine one_L (i := 8) (by kernel_rfl) rfl (fun K hK => ?_)
    refine step_mapUpdate rfl (.tmp 28) (.tmp 31) (.tmp 32) 63 90 88 rfl lawP Try.underlying63 blkElem b (2 * S.writes).toNat Db (valP (f1, f2, f3) i) (.agg (vals bs)) (klP (f1, f2, f3) i) (dat bs) rfl HM2.out.mb (by have := Hwr.out; unfold maxLen; omega) rfl rfl (keyP (f1, f2, f3) i hf HI64.out) (blkElem_mk hbs) ?_
    intro w3 ho3 hg3
    have HM3 : Hid (Made F w w3 g S b l ((2 * S.writes).toNat + 1) (Db.put (klP (f1, f2, f3) i) (dat bs)) Dl f1 f2 f3) := HM2.out.blk ho3 hg3 hlt2 hbw
    have hlt3 : w.heap.size < w3.heap.size := Nat.lt_of_lt_of_le hlt2 hg3.size
    clear ho3 hg3
    refine hK.out _ _ (fun h => absurd rfl h) ?_
    clear hK K
    refine done_L (by kernel_rfl) ?_ _
    clear HM2 HN3 hHeld hne k0 k1 k2 k3 hlt2
    obtain ⟨LL, hLL⟩ : ∃ x, x = lenOf (at_ S.l) (f1, f2, f3) := ⟨_, rfl⟩
    have HLL : Hid (LL = lenOf (at_ S.l) (f1, f2, f3)) := hLL
    clear hLL
    go_wp2
    refine region_L (fun w' => Made F w w' g S b l ((2 * S.writes).toNat + 1) (Db.put (klP (f1, f2, f3) i) (dat bs)) Dl f1 f2 f3) 14 (by kernel_rfl) ?_
    have HM4 : Hid (Made F w w3.drew g S b l ((2 * S.writes).toNat + 1) (Db.put (klP (f1, f2, f3) i) (dat bs)) Dl f1 f2 f3) := HM3.out.drew
    have hlt4 : w.heap.size < w3.drew.heap.size := hlt3
    clear HM3 hlt3
    generalize w3.drew = v3 at *
    have hHeld : (fun w' => Made F w w' g S b l ((2 * S.writes).toNat + 1) (Db.put (klP (f1, f2, f3) i) (dat bs)) Dl f1 f2 f3) _ := HM4.out
    have hne : Nonempty (Sub (fun w' => Made F w w' g S b l ((2 * S.writes).toNat + 1) (Db.put (klP (f1, f2, f3) i) (dat bs)) Dl f1 f2 f3)) := ⟨⟨_, hHeld⟩⟩
    have k0 : ∀ s : Sub (fun w' => Made F w w' g S b l ((2 * S.writes).toNat + 1) (Db.put (klP (f1, f2, f3) i) (dat bs)) Dl f1 f2 f3), s.w.cell? ⟨g, 1, none⟩ = some (.map (some l)) := fun s => s.ok.cells.2.1
    have k1 : ∀ s : Sub (fun w' => Made F w w' g S b l ((2 * S.writes).toNat + 1) (Db.put (klP (f1, f2, f3) i) (dat bs)) Dl f1 f2 f3), s.w.cell? ⟨w.heap.size, 0, none⟩ = some (.int .i64 f1) := fun s => s.ok.cells.2.2.1
    have k2 : ∀ s : Sub (fun w' => Made F w w' g S b l ((2 * S.writes).toNat + 1) (Db.put (klP (f1, f2, f3) i) (dat bs)) Dl f1 f2 f3), s.w.cell? ⟨w.heap.size, 1, none⟩ = some (.int .i64 f2) := fun s => s.ok.cells.2.2.2.1
    have k3 : ∀ s : Sub (fun w' => Made F w w' g S b l ((2 * S.writes).toNat + 1) (Db.put (klP (f1, f2, f3) i) (dat bs)) Dl f1 f2 f3), s.w.cell? ⟨w.heap.size, 2, none⟩ = some (.int .i64 f3) := fun s => s.ok.cells.2.2.2.2
    have k4 : ∀ s : Sub (fun w' => Made F w w' g S b l ((2 * S.writes).toNat + 1) (Db.put (klP (f1, f2, f3) i) (dat bs)) Dl f1 f2 f3), (Instr.lookup 64 (.map (some l)) (.agg #[.int .i64 f1, .int .i64 f2, .int .i64 f3]) false).run Try.prog s.w = .ok (.int .i64 LL) s.w := fun s => by rw [HLL.out]; exact look_len s.ok.ml H2.out hf
    refine take_L (i := 0) rfl (by kernel_rfl) (by kernel_rfl) (by kernel_rfl) (by kernel_rfl) (fun _ _ _ _ h => h) (by exact hHeld) (fun K hK => ?_)
    go_simp
    refine hK _ ?_
    clear hK K
    refine take_L (i := 1) rfl (by kernel_rfl) (by kernel_rfl) (by kernel_rfl) (by kernel_rfl) (fun _ _ _ _ h => h) (by exact hHeld) (fun K hK => ?_)
    go_simp
    refine hK _ ?_
    clear hK K
    refine take_L (i := 2) rfl (by kernel_rfl) (by kernel_rfl) (by kernel_rfl) (by kernel_rfl) (fun _ _ _ _ h => h) (by exact hHeld) (fun K hK => ?_)
    go_simp
    refine hK _ ?_
    clear hK K
    refine take_L (i := 3) rfl (by kernel_rfl) (by kernel_rfl) (by kernel_rfl) (by kernel_rfl) (fun _ _ _ _ h => h) (by exact hHeld) (fun K hK => ?_)
    go_simp
    refine hK _ ?_
    clear hK K
    refine take_L (i := 4) rfl (by kernel_rfl) (by kernel_rfl) (by kernel_rfl) (by kernel_rfl) (fun _ _ _ _ h => h) (by exact hHeld) (fun K hK => ?_)
    go_simp
    refine hK _ ?_
    clear hK K
    refine take_L (i := 5) rfl (by kernel_rfl) (by kernel_rfl) (by kernel_rfl) (by kernel_rfl) (fun _ _ _ _ h => h) (by exact hHeld) (fun K hK => ?_)
    go_simp
    refine hK _ ?_
    clear hK K
    refine take_L (i := 6) rfl (by kernel_rfl) (by kernel_rfl) (by kernel_rfl) (by kernel_rfl) (fun _ _ _ _ h => h) (by exact hHeld) (fun K hK => ?_)
    go_simp
    refine hK _ ?_
    clear hK K
    refine take_L (i := 7) rfl (by kernel_rfl) (by kernel_rfl) (by kernel_rfl) (by kernel_rfl) (fun _ _ _ _ h => h) (by exact hHeld) (fun K hK => ?_)
    go_simp
    refine hK _ ?_
    clear hK K
    refine take_L (i := 8) rfl (by kernel_rfl) (by kernel_rfl) (by kernel_rfl) (by kernel_rfl) (fun _ _ _ _ h => h) (by exact hHeld) (fun K hK => ?_)
    go_simp
    refine hK _ ?_
    clear hK K
    refine take_L (i := 9) rfl (by kernel_rfl) (by kernel_rfl) (by kernel_rfl) (by kernel_rfl) (fun _ _ _ _ h => h) (by exact hHeld) (fun K hK => ?_)
    go_simp
    refine hK _ ?_
    clear hK K
    refine take_L (i := 10) rfl (by kernel_rfl) (by kernel_rfl) (by kernel_rfl) (by kernel_rfl) (fun _ _ _ _ h => h) (by exact hHeld) (fun K hK => ?_)
    go_simp
    refine hK _ ?_
    clear hK K
    refine take_L (i := 11) rfl (by kernel_rfl) (by kernel_rfl) (by kernel_rfl) (by kernel_rfl) (fun _ _ _ _ h => h) (by exact hHeld) (fun K hK => ?_)
    go_simp
    refine hK _ ?_
    clear hK K
    refine take_L (i := 12) rfl (by kernel_rfl) (by kernel_rfl) (by kernel_rfl) (by kernel_rfl) (fun _ _ _ _ h => h) (by exact hHeld) (fun K hK => ?_)
    go_simp
    refine hK _ ?_
    clear hK K
    refine take_L (i := 13) rfl (by kernel_rfl) (by kernel_rfl) (by kernel_rfl) (by kernel_rfl) (fun _ _ _ _ h => h) (by exact hHeld) (fun K hK => ?_)
    go_simp
    refine hK _ ?_
    clear hK K
    refine one_L (i := 14) (by kernel_rfl) rfl (fun K hK => ?_)
    refine step_mapUpdate rfl (.tmp 36) (.tmp 37) (.tmp 46) 64 29 3 rfl lawF Try.underlying64 (plainElem Try.prog 3) l ((2 * S.writes).toNat + 1) Dl (valF (f1, f2, f3)) (.int .i64 (max LL (i + 1))) (klF (f1, f2, f3)) (.lit (.int .i64 (max LL (i + 1)))) rfl HM4.out.ml (by have := Hwr.out; unfold maxLen; omega) rfl rfl (keyF (f1, f2, f3) hf) (plainElem_int Try.underlying3 (WalkArith.wf_i64 (by have := HL2.out; have := HLL.out; omega))) ?_
    intro w4 ho4 hg4
    have HM5 : Hid (Made F w w4 g S b l ((2 * S.writes).toNat + 2) (Db.put (klP (f1, f2, f3) i) (dat bs)) (Dl.put (klF (f1, f2, f3)) (.lit (.int .i64 (max LL (i + 1))))) f1 f2 f3) := HM4.out.len ho4 hg4 hlt4 hlw
    clear ho4 hg4
    refine hK.out _ _ (fun h => absurd rfl h) ?_
    clear hK K
    refine done_L (by kernel_rfl) ?_ _
    clear hHeld hne k0 k1 k2 k3 k4 HM4 hlt4
    have R : Post (.returned (.tuple #[])) w4 := by
      rw [HP.out]
      refine HM5.out.keepSay HM5.out.mb.lt HM5.out.ml.lt ?_ H2.out Him.out.1 Him.out.2 rfl (by rw [HLL.out]) hf HI64.out hi0
      have := Hwr.out; omega
    clear HP HM5
    go_wp2
    go_end0
    exact R
  · have HM : Hid (Made F w w0 g S b l (2 * S.writes).toNat Db Dl f1 f2 f3) := ⟨HD.out.head, hmb, hml, ⟨hbg, hlg, hbl⟩, ⟨Or.inl hFb, Or.inl hFl, HD.out.inF⟩, Chg.of_below HB0.out, Hbox.out⟩
    have H2 : Hid (Holds2 S.l Db Dl) := hh2
    have Him : Hid (IsMap Db ∧ IsMap Dl) := ⟨hmb.isMap, hml.isMap⟩
    have hbw : b ≠ w.heap.size := fun e => by have := HFl.out b hFb; omega
    have hlw : l ≠ w.heap.size := fun e => by have := HFl.out l hFl; omega
    have hlt0 : w.heap.size < w0.heap.size := by omega
    have Hin : Hid ((F b ∨ w.heap.size ≤ b) ∧ (F l ∨ w.heap.size ≤ l)) := ⟨Or.inl hFb, Or.inl hFl⟩
    clear HD hmb hml hh2 hFb hFl hbg hlg hbl HB0 Hbox hs0
    go_upto_region 4 with fail
    go_upto_region 5 with fail
    rw [show w0.alloc (.cells #[.int .u8 0, .int .u8 0, .int .u8 0, .int .u8 0, .int .u8 0, .int .u8 0, .int .u8 0, .int .u8 0, .int .u8 0, .int .u8 0, .int .u8 0, .int .u8 0, .int .u8 0, .int .u8 0, .int .u8 0, .int .u8 0, .int .u8 0, .int .u8 0, .int .u8 0, .int .u8 0, .int .u8 0, .int .u8 0, .int .u8 0, .int .u8 0, .int .u8 0, .int .u8 0, .int .u8 0, .int .u8 0, .int .u8 0, .int .u8 0, .int .u8 0, .int .u8 0] 88) = w0.alloc (.cells (vals (List.replicate 32 0)) 88) from rfl]
    have hb1 : Below w0.heap.size w0 (w0.alloc (.cells (vals (List.replicate 32 0)) 88)) := (Below.refl _ _).alloc (Nat.le_refl _) _
    have HX1 : Hid (Bytes (w0.alloc (.cells (vals (List.replicate 32 0)) 88)) sa 32 bs) := HX0.out.later hb1
    have HN1 : Hid (Blk (w0.alloc (.cells (vals (List.replicate 32 0)) 88)) w0.heap.size 88 (List.replicate 32 0)) := Blk.new _ _ _
    have hs1 : w0.heap.size < (w0.alloc (.cells (vals (List.replicate 32 0)) 88)).heap.size := by rw [World.size_alloc]; omega
    have Hb1 : Hid (Below w0.heap.size w0 (w0.alloc (.cells (vals (List.replicate 32 0)) 88))) := hb1
    clear hb1 HX0
    generalize w0.alloc (.cells (vals (List.replicate 32 0)) 88) = w1 at *
    obtain ⟨B, hB⟩ : ∃ B, B = w0.heap.size := ⟨_, rfl⟩
    rw [← hB] at Hb1 HN1 hs1 hlt0 ⊢
    have HB : Hid (B = w0.heap.size) := hB
    clear hB
    go_wp2_with (refine wpList_copy_blk rfl (.tmp 22) (.tmp 23) rfl B sa sc rfl rfl 88 _ bs HN1.out (by simp) HX1.out B w0 Hb1.out (Nat.le_refl _) ?_; intro w2 HN2 hb2)
    have hb2' : Below w0.heap.size w0 w2 := HB.out ▸ hb2
    have hs2 : w0.heap.size ≤ w2.heap.size := hb2'.size
    rw [HB.out] at hlt0
    refine region_L (AtB F w g S b l (2 * S.writes).toNat Db Dl f1 f2 f3 B bs) 8 (by kernel_rfl) ?_
    have HM2 : Hid (Made F w w2.drew g S b l (2 * S.writes).toNat Db Dl f1 f2 f3) := (HM.out.on hb2').drew
    have HN3 : Hid (Blk w2.drew B 88 bs) := HN2.out
    have hlt2 : w.heap.size < w2.drew.heap.size := Nat.lt_of_lt_of_le hlt0 hs2
    clear HM HN2 hb2 hb2' HX1 HN1 hs1 hs2 hlt0 Hb1
    generalize w2.drew = v1 at *
    have hHeld : (AtB F w g S b l (2 * S.writes).toNat Db Dl f1 f2 f3 B bs) _ := ⟨HM2.out, HN3.out⟩
    have hne : Nonempty (Sub (AtB F w g S b l (2 * S.writes).toNat Db Dl f1 f2 f3 B bs)) := ⟨⟨_, hHeld⟩⟩
    have k0 : ∀ s : Sub (AtB F w g S b l (2 * S.writes).toNat Db Dl f1 f2 f3 B bs), s.w.cell? ⟨g, 0, none⟩ = some (.map (some b)) := fun s => s.ok.1.cells.1
    have k1 : ∀ s : Sub (AtB F w g S b l (2 * S.writes).toNat Db Dl f1 f2 f3 B bs), s.w.cell? ⟨w.heap.size, 0, none⟩ = some (.int .i64 f1) := fun s => s.ok.1.cells.2.2.1
    have k2 : ∀ s : Sub (AtB F w g S b l (2 * S.writes).toNat Db Dl f1 f2 f3 B bs), s.w.cell? ⟨w.heap.size, 1, none⟩ = some (.int .i64 f2) := fun s => s.ok.1.cells.2.2.2.1
    have k3 : ∀ s : Sub (AtB F w g S b l (2 * S.writes).toNat Db Dl f1 f2 f3 B bs), s.w.cell? ⟨w.heap.size, 2, none⟩ = some (.int .i64 f3) := fun s => s.ok.1.cells.2.2.2.2
    refine take_L (i := 0) rfl (by kernel_rfl) (by kernel_rfl) (by kernel_rfl) (by kernel_rfl) (fun _ _ _ _ h => h) (by exact hHeld) (fun K hK => ?_)
    go_simp
    refine hK _ ?_
    clear hK K
    refine take_L (i := 1) rfl (by kernel_rfl) (by kernel_rfl) (by kernel_rfl) (by kernel_rfl) (fun _ _ _ _ h => h) (by exact hHeld) (fun K hK => ?_)
    go_simp
    refine hK _ ?_
    clear hK K
    refine take_L (i := 2) rfl (by kernel_rfl) (by kernel_rfl) (by kernel_rfl) (by kernel_rfl) (fun _ _ _ _ h => h) (by exact hHeld) (fun K hK => ?_)
    go_simp
    refine hK _ ?_
    clear hK K
    refine take_L (i := 3) rfl (by kernel_rfl) (by kernel_rfl) (by kernel_rfl) (by kernel_rfl) (fun _ _ _ _ h => h) (by exact hHeld) (fun K hK => ?_)
    go_simp
    refine hK _ ?_
    clear hK K
    refine take_L (i := 4) rfl (by kernel_rfl) (by kernel_rfl) (by kernel_rfl) (by kernel_rfl) (fun _ _ _ _ h => h) (by exact hHeld) (fun K hK => ?_)
    go_simp
    refine hK _ ?_
    clear hK K
    refine take_L (i := 5) rfl (by kernel_rfl) (by kernel_rfl) (by kernel_rfl) (by kernel_rfl) (fun _ _ _ _ h => h) (by exact hHeld) (fun K hK => ?_)
    go_simp
    refine hK _ ?_
    clear hK K
    refine take_L (i := 6) rfl (by kernel_rfl) (by kernel_rfl) (by kernel_rfl) (by kernel_rfl) (fun _ _ _ _ h => h) (by exact hHeld) (fun K hK => ?_)
    go_simp
    refine hK _ ?_
    clear hK K
    refine give_L (i := 7) (.agg (vals bs)) rfl (by kernel_rfl) (by kernel_rfl) (by kernel_rfl) (by kernel_rfl) (fun _ _ _ _ h => h) (by exact hHeld) (by rfl) (fun s => exec_load (p := .pointer (some ⟨B, 0, none⟩)) rfl rfl (s.ok.2.load hbs)) ?_
    refine one_L (i := 8) (by kernel_rfl) rfl (fun K hK => ?_)
    refine step_mapUpdate rfl (.tmp 28) (.tmp 31) (.tmp 32) 63 90 88 rfl lawP Try.underlying63 blkElem b (2 * S.writes).toNat Db (valP (f1, f2, f3) i) (.agg (vals bs)) (klP (f1, f2, f3) i) (dat bs) rfl HM2.out.mb (by have := Hwr.out; unfold maxLen; omega) rfl rfl (keyP (f1, f2, f3) i hf HI64.out) (blkElem_mk hbs) ?_
    intro w3 ho3 hg3
    have HM3 : Hid (Made F w w3 g S b l ((2 * S.writes).toNat + 1) (Db.put (klP (f1, f2, f3) i) (dat bs)) Dl f1 f2 f3) := HM2.out.blk ho3 hg3 hlt2 hbw
    have hlt3 : w.heap.size < w3.heap.size := Nat.lt_of_lt_of_le hlt2 hg3.size
    clear ho3 hg3
    refine hK.out _ _ (fun h => absurd rfl h) ?_
    clear hK K
    refine done_L (by kernel_rfl) ?_ _
    clear HM2 HN3 hHeld hne k0 k1 k2 k3 hlt2
    obtain ⟨LL, hLL⟩ : ∃ x, x = lenOf (at_ S.l) (f1, f2, f3) := ⟨_, rfl⟩
    have HLL : Hid (LL = lenOf (at_ S.l) (f1, f2, f3)) := hLL
    clear hLL
    go_wp2
    refine region_L (fun w' => Made F w w' g S b l ((2 * S.writes).toNat + 1) (Db.put (klP (f1, f2, f3) i) (dat bs)) Dl f1 f2 f3) 14 (by kernel_rfl) ?_
    have HM4 : Hid (Made F w w3.drew g S b l ((2 * S.writes).toNat + 1) (Db.put (klP (f1, f2, f3) i) (dat bs)) Dl f1 f2 f3) := HM3.out.drew
    have hlt4 : w.heap.size < w3.drew.heap.size := hlt3
    clear HM3 hlt3
    generalize w3.drew = v3 at *
    have hHeld : (fun w' => Made F w w' g S b l ((2 * S.writes).toNat + 1) (Db.put (klP (f1, f2, f3) i) (dat bs)) Dl f1 f2 f3) _ := HM4.out
    have hne : Nonempty (Sub (fun w' => Made F w w' g S b l ((2 * S.writes).toNat + 1) (Db.put (klP (f1, f2, f3) i) (dat bs)) Dl f1 f2 f3)) := ⟨⟨_, hHeld⟩⟩
    have k0 : ∀ s : Sub (fun w' => Made F w w' g S b l ((2 * S.writes).toNat + 1) (Db.put (klP (f1, f2, f3) i) (dat bs)) Dl f1 f2 f3), s.w.cell? ⟨g, 1, none⟩ = some (.map (some l)) := fun s => s.ok.cells.2.1
    have k1 : ∀ s : Sub (fun w' => Made F w w' g S b l ((2 * S.writes).toNat + 1) (Db.put (klP (f1, f2, f3) i) (dat bs)) Dl f1 f2 f3), s.w.cell? ⟨w.heap.size, 0, none⟩ = some (.int .i64 f1) := fun s => s.ok.cells.2.2.1
    have k2 : ∀ s : Sub (fun w' => Made F w w' g S b l ((2 * S.writes).toNat + 1) (Db.put (klP (f1, f2, f3) i) (dat bs)) Dl f1 f2 f3), s.w.cell? ⟨w.heap.size, 1, none⟩ = some (.int .i64 f2) := fun s => s.ok.cells.2.2.2.1
    have k3 : ∀ s : Sub (fun w' => Made F w w' g S b l ((2 * S.writes).toNat + 1) (Db.put (klP (f1, f2, f3) i) (dat bs)) Dl f1 f2 f3), s.w.cell? ⟨w.heap.size, 2, none⟩ = some (.int .i64 f3) := fun s => s.ok.cells.2.2.2.2
    have k4 : ∀ s : Sub (fun w' => Made F w w' g S b l ((2 * S.writes).toNat + 1) (Db.put (klP (f1, f2, f3) i) (dat bs)) Dl f1 f2 f3), (Instr.lookup 64 (.map (some l)) (.agg #[.int .i64 f1, .int .i64 f2, .int .i64 f3]) false).run Try.prog s.w = .ok (.int .i64 LL) s.w := fun s => by rw [HLL.out]; exact look_len s.ok.ml H2.out hf
    refine take_L (i := 0) rfl (by kernel_rfl) (by kernel_rfl) (by kernel_rfl) (by kernel_rfl) (fun _ _ _ _ h => h) (by exact hHeld) (fun K hK => ?_)
    go_simp
    refine hK _ ?_
    clear hK K
    refine take_L (i := 1) rfl (by kernel_rfl) (by kernel_rfl) (by kernel_rfl) (by kernel_rfl) (fun _ _ _ _ h => h) (by exact hHeld) (fun K hK => ?_)
    go_simp
    refine hK _ ?_
    clear hK K
    refine take_L (i := 2) rfl (by kernel_rfl) (by kernel_rfl) (by kernel_rfl) (by kernel_rfl) (fun _ _ _ _ h => h) (by exact hHeld) (fun K hK => ?_)
    go_simp
    refine hK _ ?_
    clear hK K
    refine take_L (i := 3) rfl (by kernel_rfl) (by kernel_rfl) (by kernel_rfl) (by kernel_rfl) (fun _ _ _ _ h => h) (by exact hHeld) (fun K hK => ?_)
    go_simp
    refine hK _ ?_
    clear hK K
    refine take_L (i := 4) rfl (by kernel_rfl) (by kernel_rfl) (by kernel_rfl) (by kernel_rfl) (fun _ _ _ _ h => h) (by exact hHeld) (fun K hK => ?_)
    go_simp
    refine hK _ ?_
    clear hK K
    refine take_L (i := 5) rfl (by kernel_rfl) (by kernel_rfl) (by kernel_rfl) (by kernel_rfl) (fun _ _ _ _ h => h) (by exact hHeld) (fun K hK => ?_)
    go_simp
    refine hK _ ?_
    clear hK K
    refine take_L (i := 6) rfl (by kernel_rfl) (by kernel_rfl) (by kernel_rfl) (by kernel_rfl) (fun _ _ _ _ h => h) (by exact hHeld) (fun K hK => ?_)
    go_simp
    refine hK _ ?_
    clear hK K
    refine take_L (i := 7) rfl (by kernel_rfl) (by kernel_rfl) (by kernel_rfl) (by kernel_rfl) (fun _ _ _ _ h => h) (by exact hHeld) (fun K hK => ?_)
    go_simp
    refine hK _ ?_
    clear hK K
    refine take_L (i := 8) rfl (by kernel_rfl) (by kernel_rfl) (by kernel_rfl) (by kernel_rfl) (fun _ _ _ _ h => h) (by exact hHeld) (fun K hK => ?_)
    go_simp
    refine hK _ ?_
    clear hK K
    refine take_L (i := 9) rfl (by kernel_rfl) (by kernel_rfl) (by kernel_rfl) (by kernel_rfl) (fun _ _ _ _ h => h) (by exact hHeld) (fun K hK => ?_)
    go_simp
    refine hK _ ?_
    clear hK K
    refine take_L (i := 10) rfl (by kernel_rfl) (by kernel_rfl) (by kernel_rfl) (by kernel_rfl) (fun _ _ _ _ h => h) (by exact hHeld) (fun K hK => ?_)
    go_simp
    refine hK _ ?_
    clear hK K
    refine take_L (i := 11) rfl (by kernel_rfl) (by kernel_rfl) (by kernel_rfl) (by kernel_rfl) (fun _ _ _ _ h => h) (by exact hHeld) (fun K hK => ?_)
    go_simp
    refine hK _ ?_
    clear hK K
    refine take_L (i := 12) rfl (by kernel_rfl) (by kernel_rfl) (by kernel_rfl) (by kernel_rfl) (fun _ _ _ _ h => h) (by exact hHeld) (fun K hK => ?_)
    go_simp
    refine hK _ ?_
    clear hK K
    refine take_L (i := 13) rfl (by kernel_rfl) (by kernel_rfl) (by kernel_rfl) (by kernel_rfl) (fun _ _ _ _ h => h) (by exact hHeld) (fun K hK => ?_)
    go_simp
    refine hK _ ?_
    clear hK K
    refine one_L (i := 14) (by kernel_rfl) rfl (fun K hK => ?_)
    refine step_mapUpdate rfl (.tmp 36) (.tmp 37) (.tmp 46) 64 29 3 rfl lawF Try.underlying64 (plainElem Try.prog 3) l ((2 * S.writes).toNat + 1) Dl (valF (f1, f2, f3)) (.int .i64 (max LL (i + 1))) (klF (f1, f2, f3)) (.lit (.int .i64 (max LL (i + 1)))) rfl HM4.out.ml (by have := Hwr.out; unfold maxLen; omega) rfl rfl (keyF (f1, f2, f3) hf) (plainElem_int Try.underlying3 (WalkArith.wf_i64 (by have := HL2.out; have := HLL.out; omega))) ?_
    intro w4 ho4 hg4
    have HM5 : Hid (Made F w w4 g S b l ((2 * S.writes).toNat + 2) (Db.put (klP (f1, f2, f3) i) (dat bs)) (Dl.put (klF (f1, f2, f3)) (.lit (.int .i64 (max LL (i + 1))))) f1 f2 f3) := HM4.out.len ho4 hg4 hlt4 hlw
    clear ho4 hg4
    refine hK.out _ _ (fun h => absurd rfl h) ?_
    clear hK K
    refine done_L (by kernel_rfl) ?_ _
    clear hHeld hne k0 k1 k2 k3 k4 HM4 hlt4
    have R : Post (.returned (.tuple #[])) w4 := by
      rw [HP.out]
      refine HM5.out.keepSay HM5.out.mb.lt HM5.out.ml.lt ?_ H2.out Him.out.1 Him.out.2 rfl (by rw [HLL.out]) hf HI64.out hi0
      have := Hwr.out; omega
    clear HP HM5
    go_wp2
    go_end0
    exact R
end Go.Proofs.Ytdjhlpllffakpaa
