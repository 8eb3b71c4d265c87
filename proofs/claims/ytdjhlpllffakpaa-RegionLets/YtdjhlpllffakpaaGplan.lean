/-
  The document's Plan: what slots have behind some changes.
-/
import Derived.Test.YtdjhlpllffakpaaGsame
set_option maxRecDepth 20000
namespace Go.Proofs.Ytdjhlpllffakpaa
open Go.RowKit

/-! ### a row of slices of one's own -/
def slVals (l : List Sl) : List Value := l.map fun o => .slice o.a o.n o.c
theorem slVals_len (l : List Sl) : (slVals l).length = l.length := by simp [slVals]
theorem slVals_one (l : List Sl) : ∀ u ∈ slVals l, u.oneCell' = true := by
  intro u hu
  simp only [slVals, List.mem_map] at hu
  obtain ⟨o, _, rfl⟩ := hu
  rfl
theorem info25 : (Try.prog.info? 25).map (fun i => (i.zero, i.size, i.bytes)) = some (some (.slice none 0 0), 1, 24) := by kernel_rfl
/-- Slots in a row of one's own, from block B on; what they hold lies apart from the row and from block hb. -/
structure OwnSl (A : Nat → Prop) (w : World) (B ob oc hb : Nat) (l : List Sl) : Prop where
  row : w.ownsRow B 25 1 (.slice (some ⟨ob, 0, none⟩) l.length oc) l.length (slVals l)
  by_ : ∀ k (h : k < l.length), Bytes w l[k].a l[k].n l[k].b ∧ l[k].n ≤ 140737488351232 ∧ (l[k].b = [] ∨ ∀ b off, l[k].a = some ⟨b, off, none⟩ → b ≠ ob ∧ b ≠ hb ∧ ¬ A b)
theorem OwnSl.at {A : Nat → Prop} {w : World} {B ob oc hb : Nat} {l : List Sl} (h : OwnSl A w B ob oc hb l) {k : Nat} (hk : k < l.length) : w.cell? ⟨ob, k, none⟩ = some (.slice l[k].a l[k].n l[k].c) := by
  have := World.ownsRow.cellAt h.row k (by omega)
  rw [this]
  simp [slVals, hk]
theorem OwnSl.blk {A : Nat → Prop} {w : World} {B ob oc hb : Nat} {l : List Sl} (h : OwnSl A w B ob oc hb l) : B ≤ ob ∧ ob < w.heap.size ∧ ∀ k, w.frozen? ⟨ob, k, none⟩ = false := by
  rcases h.row.2 with ⟨hv, _⟩ | ⟨g, cap, cur, hv, hg, hh, _⟩
  · simp at hv
  · simp only [Value.slice.injEq, Option.some.injEq, Addr.mk.injEq, and_true, true_and] at hv
    obtain ⟨rfl, _⟩ := hv
    exact ⟨hg, (Array.getElem?_eq_some_iff.1 hh).1, fun k => frozen_of_row w ob k _ 25 hh⟩
theorem OwnSl.sls {A : Nat → Prop} {w : World} {B ob oc hb : Nat} {l : List Sl} (h : OwnSl A w B ob oc hb l) : SlsAt w (some ⟨ob, 0, none⟩) l := fun k hk =>
  ⟨ob, 0, rfl, by rw [Nat.zero_add]; exact h.at hk, (h.by_ k hk).1, (h.by_ k hk).2.1⟩
theorem bytes_setAway {w : World} {a : Option Addr} {n : Nat} {xs : List Int} (h : Bytes w a n xs) {g k : Nat} {v : Value} (ha : xs = [] ∨ ∀ b off, a = some ⟨b, off, none⟩ → b ≠ g) : Bytes (w.setCell ⟨g, k, none⟩ v) a n xs := by
  refine ⟨h.n, ?_, h.fit⟩
  rcases h.cells with e | ⟨b, off, e, hc⟩
  · exact .inl e
  · rcases ha with e' | ha
    · exact .inl e'
    · exact .inr ⟨b, off, e, fun j hj => (World.cell?_of_block (a := ⟨b, off + j, none⟩) (Below.heap_setCell w ⟨g, k, none⟩ v b (ha b off e))).trans (hc j hj)⟩
theorem OwnSl.setHad {A : Nat → Prop} {w : World} {B ob oc hb : Nat} {l : List Sl} (h : OwnSl A w B ob oc hb l) (hne : ob ≠ hb) (k : Nat) (v : Value) : OwnSl A (w.setCell ⟨hb, k, none⟩ v) B ob oc hb l := by
  refine ⟨?_, fun j hj => ?_⟩
  · refine ⟨h.row.1, ?_⟩
    rcases h.row.2 with h2 | ⟨g, cap, cur, hv, hg, hh, r⟩
    · exact .inl h2
    · have e : g = ob := by simp only [Value.slice.injEq, Option.some.injEq, Addr.mk.injEq, and_true] at hv; exact hv.1.symm
      exact .inr ⟨g, cap, cur, hv, hg, (Below.heap_setCell w ⟨hb, k, none⟩ v g (by rw [e]; exact hne)).trans hh, r⟩
  · obtain ⟨h1, h2, h3⟩ := h.by_ j hj
    exact ⟨bytes_setAway h1 (h3.imp id (fun h3 b off e => (h3 b off e).2.1)), h2, h3⟩
theorem OwnSl.on {A : Nat → Prop} {w w' : World} {B ob oc hb : Nat} {l : List Sl} (h : OwnSl A w B ob oc hb l) (hb' : Below w.heap.size w w') : OwnSl A w' B ob oc hb l := by
  refine ⟨⟨h.row.1, ?_⟩, fun j hj => ?_⟩
  · rcases h.row.2 with h2 | ⟨g, cap, cur, hv, hg, hh, r⟩
    · exact .inl h2
    · exact .inr ⟨g, cap, cur, hv, hg, (hb'.block g (Array.getElem?_eq_some_iff.1 hh).1).trans hh, r⟩
  · obtain ⟨h1, h2, h3⟩ := h.by_ j hj
    exact ⟨h1.on hb', h2, h3⟩
/-- One slot is another one. -/
theorem OwnSl.put {A : Nat → Prop} {w : World} {B ob oc hb : Nat} {l : List Sl} (h : OwnSl A w B ob oc hb l) (k : Nat) (o : Sl) (hB : Bytes w o.a o.n o.b) (hs : o.n ≤ 140737488351232) (ha : o.b = [] ∨ ∀ b off, o.a = some ⟨b, off, none⟩ → b ≠ ob ∧ b ≠ hb ∧ ¬ A b) : OwnSl A (w.setCell ⟨ob, k, none⟩ (.slice o.a o.n o.c)) B ob oc hb (l.set k o) := by
  refine ⟨?_, fun j hj => ?_⟩
  · have := (World.ownsRow.stored h.row k (.slice o.a o.n o.c)).1
    rw [List.length_set]
    have e : slVals (l.set k o) = (slVals l).set k (.slice o.a o.n o.c) := by simp [slVals, List.map_set]
    rw [e]
    exact this
  · rw [List.length_set] at hj
    rw [List.getElem_set]
    split
    · exact ⟨bytes_setAway hB (ha.imp id (fun h3 b off e => (h3 b off e).1)), hs, ha⟩
    · obtain ⟨h1, h2, h3⟩ := h.by_ j hj
      exact ⟨bytes_setAway h1 (h3.imp id (fun h3 b off e => (h3 b off e).1)), h2, h3⟩
/-- Slots that lie apart from A. -/
structure Sn (A : Nat → Prop) (w : World) (sa : Option Addr) (l : List Sl) : Prop where
  at_ : SlsAt w sa l
  row : ∀ b off, sa = some ⟨b, off, none⟩ → ¬ A b
  dat : ∀ k (h : k < l.length), l[k].b = [] ∨ ∀ b off, l[k].a = some ⟨b, off, none⟩ → ¬ A b
theorem Sn.on {A : Nat → Prop} {w w' : World} {sa : Option Addr} {l : List Sl} (H : Sn A w sa l) (hb : Below w.heap.size w w') : Sn A w' sa l := ⟨H.at_.on hb, H.row, H.dat⟩
theorem Sn.stp {A A' : Nat → Prop} {w w' : World} {sa : Option Addr} {l : List Sl} (H : Sn A w sa l) (hs : Stp A w A' w') (hp : 0 < l.length) : Sn A' w' sa l := by
  have hcell : ∀ b j v, ¬ A b → w.cell? ⟨b, j, none⟩ = some v → w'.cell? ⟨b, j, none⟩ = some v := fun b j v hb hv => by
    have hlt := World.block_lt_of_cell? w _ hv
    rw [← hv]
    exact World.cell?_of_block (a := ⟨b, j, none⟩) (hs.block b hlt hb).1
  refine ⟨fun k hk => ?_, fun b off e => ?_, fun k hk => ?_⟩
  · obtain ⟨b, off, e, h1⟩ := H.at_ k hk
    refine ⟨b, off, e, hcell _ _ _ (H.row b off e) h1.c0, ⟨h1.by_.n, ?_, h1.by_.fit⟩, h1.sz⟩
    rcases h1.by_.cells with h2 | ⟨b2, off2, e2, hc⟩
    · exact .inl h2
    · rcases H.dat k hk with h3 | h3
      · exact .inl h3
      · exact .inr ⟨b2, off2, e2, fun j hj => hcell _ _ _ (h3 b2 off2 e2) (hc j hj)⟩
  · obtain ⟨b', off', e', h1⟩ := H.at_ 0 hp
    rw [e] at e'
    cases e'
    exact (hs.block b (World.block_lt_of_cell? w _ h1.c0) (H.row b off e)).2
  · by_cases hz : l[k].b = []
    · exact .inl hz
    · refine .inr (fun b off e => ?_)
      obtain ⟨_, _, _, h1⟩ := H.at_ k hk
      rcases h1.by_.cells with h2 | ⟨b2, off2, e2, hc⟩
      · exact absurd h2 hz
      · rw [e] at e2
        cases e2
        have hlt := World.block_lt_of_cell? w _ (hc 0 (List.length_pos_iff.2 hz))
        rcases H.dat k hk with h3 | h3
        · exact absurd h3 hz
        · exact (hs.block b hlt (h3 b off e)).2
theorem OwnSl.sn {A : Nat → Prop} {w : World} {B ob oc hb : Nat} {l : List Sl} (h : OwnSl A w B ob oc hb l) (hA : ∀ k, A k → k < B) : Sn A w (some ⟨ob, 0, none⟩) l :=
  ⟨h.sls, fun b off e hb' => by cases e; have := hA ob hb'; have := h.blk.1; omega, fun k hk => (h.by_ k hk).2.2.imp id (fun h3 b off e => (h3 b off e).2.2)⟩
/-! ### plain -/
def hadR (hd : List Nat) : List Bool := (List.range 16).map fun i => decide (i ∈ hd)
theorem hadR_len (hd : List Nat) : (hadR hd).length = 16 := by simp [hadR]
theorem hadR_nil : hadR [] = List.replicate 16 false := by decide
theorem hadR_at (hd : List Nat) {i : Nat} (hi : i < 16) : (hadR hd).getD i false = decide (i ∈ hd) := by simp [hadR, List.getD_eq_getElem?_getD, hi]
theorem hadR_set (hd : List Nat) {i : Nat} (hi : i < 16) : (hadR hd).set i true = hadR (i :: hd) := by
  apply List.ext_getElem?
  intro j
  rw [List.getElem?_set]
  simp only [hadR, List.length_map, List.length_range, List.getElem?_map]
  by_cases hj : j < 16
  · rw [List.getElem?_range hj]
    by_cases e : i = j
    · rw [if_pos e, if_pos hi]
      simp [e]
    · rw [if_neg e]
      simp [Ne.symm e]
  · rw [List.getElem?_eq_none (by simp; omega)]
    by_cases e : i = j
    · omega
    · rw [if_neg e]; rfl
theorem chg_bad {d : List (List Int)} {hd : List Nat} {c : Cs} {r : List Cs} (h : ¬ (0 ≤ c.s ∧ c.s < 16 ∧ c.s.toNat ∉ hd)) : chgAll d hd (c :: r) = none := by rw [chgAll, if_neg h]
theorem chg_ok {d : List (List Int)} {hd : List Nat} {c : Cs} {r : List Cs} (h : 0 ≤ c.s ∧ c.s < 16 ∧ c.s.toNat ∉ hd) : chgAll d hd (c :: r) = chgAll (d.set c.s.toNat c.b) (c.s.toNat :: hd) r := by rw [chgAll, if_pos h]
def needTo (d : List (List Int)) (i : Nat) : Nat := needAll (d.take i)
theorem needTo_next (d : List (List Int)) (i : Nat) (h : i < d.length) : needTo d (i + 1) = needTo d i + needS d[i].length := by
  unfold needTo needAll
  rw [List.take_succ_eq_append_getElem h, List.map_append, List.sum_append]
  simp
theorem needTo_le (d : List (List Int)) (i : Nat) : needTo d i ≤ needAll d := by
  unfold needTo needAll
  conv => rhs; rw [← List.take_append_drop i d, List.map_append, List.sum_append]
  omega
/-- What the document's Plan answers. -/
def RPlanSay (A : Nat → Prop) (l : List Sl) (cs : List Cg) (w : World) (e : Ending) (w' : World) : Prop := Below w.heap.size w w' ∧
  (((planS (l.map (·.b)) (cs.map Cg.cs)).1 ≠ 0 ∧ e = .returned (.tuple #[.slice none 0 0, .int .i64 (planS (l.map (·.b)) (cs.map Cg.cs)).1])) ∨
   ((planS (l.map (·.b)) (cs.map Cg.cs)).1 = 0 ∧ ∃ ob oc hb l', e = .returned (.tuple #[.slice (some ⟨ob, 0, none⟩) 16 oc, .int .i64 0]) ∧ OwnSl A w' w.heap.size ob oc hb l' ∧ l'.length = 16 ∧ l'.map (·.b) = (planS (l.map (·.b)) (cs.map Cg.cs)).2))
/-- On the way through the changes. -/
structure Pw (A : Nat → Prop) (l : List Sl) (cs : List Cg) (w : World) (ob oc hb i : Nat) (wr : World) : Prop where
  it : ∃ li hd, OwnSl A wr w.heap.size ob oc hb li ∧ li.length = 16 ∧ wr.heap[hb]? = some (.cells (bvals (hadR hd)) 4 (0, 0)) ∧ chgAll (l.map (·.b)) [] (cs.map Cg.cs) = chgAll (li.map (·.b)) hd ((cs.map Cg.cs).drop i)
  bel : Below w.heap.size w wr

set_option maxHeartbeats 4000000 in
theorem rplan_c (A : Nat → Prop) (sa : Option Addr) (sc : Nat) (l : List Sl) (ca : Option Addr) (n cc : Nat) (cs : List Cg) (w : World) (hSn : Sn A w sa l) (hAl : ∀ k, A k → k < w.heap.size) (hl : l.length = 16) (hC : CgsAt w ca cs) (hn : cs.length = n) (hm : n ≤ maxLen) :
    Calls Try.prog 19 #[.slice sa 16 sc, .slice ca n cc] w (RPlanSay A l cs w) := by
  obtain ⟨Post, hPost⟩ : ∃ Post, Post = RPlanSay A l cs w := ⟨_, rfl⟩
  rw [← hPost]
  have HP : Hid (∀ e w', RPlanSay A l cs w e w' → Post e w') := fun e w' h => by rw [hPost]; exact h
  clear hPost
  have hm' : n ≤ 9223372036854775807 := by unfold maxLen at hm; omega
  have hS := hSn.at_
  have HS : Hid (SlsAt w sa l) := hS
  have HSn : Hid (Sn A w sa l) := hSn
  have HAl : Hid (∀ k, A k → k < w.heap.size) := hAl
  clear hSn hAl
  have Hl : Hid (l.length = 16) := hl
  have HC : Hid (CgsAt w ca cs) := hC
  have Hn : Hid (cs.length = n) := hn
  obtain ⟨sb, so, rfl, hS00⟩ := hS 0 (by omega)
  clear hS00
  obtain ⟨i25, hi25, hz0, hz1, hz2⟩ := info_parts info25
  have hnews : ∀ j u, (slVals l)[j]? = some u → w.cell? (Addr.add ⟨sb, so, none⟩ j) = some u := by
    intro j u hj
    obtain ⟨hj', hu⟩ := List.getElem?_eq_some_iff.1 hj
    rw [slVals_len] at hj'
    obtain ⟨b', off', e, h1⟩ := HS.out j hj'
    cases e
    rw [Addr.add_mid, h1.c0, ← hu]
    simp [slVals]
  clear hS hl hC hn hm
  go_enter Try.func19, Try.ntmps19
  go_wp2_with (first
    | (at_builtin; refine wpList_append_own w rfl _ _ 39 rfl w.heap.size 25 i25 (.slice none 0 0) 1 24 Try.underlying39 hi25 hz0 hz1 hz2 rfl (by decide) _ 0 [] rfl (World.ownsRow_nil _ _ _ _) ⟨sb, so, none⟩ 16 sc (slVals l) rfl (by rw [slVals_len, Hl.out]) hnews (slVals_one l) (by unfold maxLen; omega) (by omega) (Nat.le_refl _) ?_; intro vo w1 hown hgrow _)
    | (at_make; refine wpList_make_bools _ rfl _ _ rfl 16 16 rfl rfl rfl (by omega) ?_; intro w2 HH hb2))
  obtain ⟨ob, oc, rfl⟩ : ∃ ob oc, vo = .slice (some ⟨ob, 0, none⟩) 16 oc := by
    rcases hown.2 with ⟨_, h0⟩ | ⟨g, cap, _, hv, _⟩
    · simp at h0
    · exact ⟨g, cap, hv⟩
  rw [List.nil_append] at hown
  have hb1 : Below w.heap.size w w1 := (Below.refl _ _).grown hgrow (Nat.le_refl _) (by simp [Act.eval, Value.ownBlock])
  obtain ⟨hb, hhb⟩ : ∃ hb, hb = w1.heap.size := ⟨_, rfl⟩
  rw [← hhb] at HH ⊢
  have Hhb : Hid (hb = w1.heap.size ∧ w.heap.size ≤ w1.heap.size) := ⟨hhb, hb1.size⟩
  have hO1 : OwnSl A w1 w.heap.size ob oc hb l := by
    refine ⟨by rw [Hl.out]; exact hown, fun k hk => ?_⟩
    obtain ⟨b', off', _, h1⟩ := HS.out k hk
    refine ⟨h1.by_.on hb1, h1.sz, ?_⟩
    rcases h1.by_.cells with e | ⟨b, off, e, hc⟩
    · exact .inl e
    · by_cases hz : l[k].b = []
      · exact .inl hz
      · refine .inr (fun b2 off2 e2 => ?_)
        rw [e] at e2
        cases e2
        have hp : 0 < l[k].b.length := List.length_pos_iff.2 hz
        have hlt := World.block_lt_of_cell? w _ (hc 0 hp)
        simp only at hlt
        have hob : w.heap.size ≤ ob := by
          rcases hown.2 with ⟨h', _⟩ | ⟨g, cap, cur, hv, hg, _⟩
          · simp at h'
          · simp only [Value.slice.injEq, Option.some.injEq, Addr.mk.injEq, and_true, true_and] at hv
            rw [hv.1]; exact hg
        have := Hhb.out
        refine ⟨by omega, by omega, ?_⟩
        rcases HSn.out.dat k hk with h3 | h3
        · exact absurd h3 hz
        · exact h3 b off e
  have Hne : Hid (ob < hb ∧ w.heap.size ≤ ob) := ⟨by rw [hhb]; exact hO1.blk.2.1, hO1.blk.1⟩
  have HW0 : Hid (Pw A l cs w ob oc hb 0 w2) := ⟨⟨l, [], hO1.on hb2, Hl.out, by rw [hadR_nil]; exact HH.out, by rw [List.drop_zero]⟩, hb1.trans (hb2.mono hb1.size)⟩
  clear HH hb2 hhb hO1 hb1 hown hgrow hnews HS HSn
  go_loopw [8] (fun v wr => ∃ (i : Nat), i ≤ n ∧ v = .int .i64 (i : Int) ∧ Hid (Pw A l cs w ob oc hb i wr)) (fun v _ => n - (intOf v).toNat)
  case atStart => exact ⟨0, Nat.zero_le _, rfl, HW0.out⟩
  case round =>
    clear HW0
    obtain ⟨i, hi, rfl, HW⟩ := hrel
    obtain ⟨li, hd, hO, hlen, hhad, hch⟩ := HW.out.it
    have HBr : Hid (Below w.heap.size w wr) := HW.out.bel
    have HO : Hid (OwnSl A wr w.heap.size ob oc hb li) := hO
    have Hlen : Hid (li.length = 16) := hlen
    have Hhad : Hid (wr.heap[hb]? = some (.cells (bvals (hadR hd)) 4 (0, 0))) := hhad
    by_cases hlt : i < n
    · have hlt' : (i : Int) < (n : Int) := by omega
      have hil : i < cs.length := by rw [Hn.out]; exact hlt
      obtain ⟨cb, co, rfl, hc⟩ := (HC.out.on HBr.out) i hil
      have hdr : (cs.map Cg.cs).drop i = cs[i].cs :: (cs.map Cg.cs).drop (i + 1) := by
        rw [List.drop_eq_getElem_cons (by rw [List.length_map]; exact hil), List.getElem_map]
      rw [hdr] at hch
      obtain ⟨⟨s, da, dn, dc, db⟩, hci⟩ : ∃ c, cs[i] = c := ⟨_, rfl⟩
      rw [hci] at hc hch
      have c0 := hc.c0
      have c1 := hc.c1
      simp only at c0 c1
      have HD : Hid (Bytes wr da dn db) := hc.by_
      have Hnil : Hid (da = none → dc = 0) := hc.nil
      have hsz : dn ≤ 140737488351232 := hc.sz
      obtain ⟨hs1, hs2⟩ := hc.bd
      simp only at hs1 hs2
      by_cases hbad : 0 ≤ s ∧ s < 16 ∧ s.toNat ∉ hd
      · obtain ⟨hb0, hb16, hnot⟩ := hbad
        have hch2 := hch.trans (chg_ok (c := Cg.cs ⟨s, da, dn, dc, db⟩) ⟨hb0, hb16, hnot⟩)
        obtain ⟨S, rfl⟩ := Int.eq_ofNat_of_zero_le hb0
        have hS16 : S < 16 := by omega
        have hat := row_at Hhad.out (i := S) (by rw [hadR_len]; exact hS16)
        rw [hadR_at hd hS16, decide_eq_false (by simpa using hnot)] at hat
        have hfr : wr.frozen? ⟨hb, S, none⟩ = false := frozen_of_row wr _ _ _ 4 Hhad.out
        obtain ⟨wa, hwa⟩ : ∃ wa, wa = wr.setCell ⟨hb, S, none⟩ (.bool true) := ⟨_, rfl⟩
        have hne := Hne.out
        have hblk := HO.out.blk
        have hsz1 : wa.heap.size = wr.heap.size := by rw [hwa]; simp [World.setCell]
        have HBa : Hid (Below w.heap.size w wa) := by rw [hwa]; exact HBr.out.setCell (p := ⟨hb, S, none⟩) (by simp only; omega) _
        have HOa : Hid (OwnSl A wa w.heap.size ob oc hb li) := by rw [hwa]; exact HO.out.setHad (by omega) _ _
        have Hha : Hid (wa.heap[hb]? = some (.cells (bvals (hadR (S :: hd))) 4 (0, 0))) := by
          rw [hwa, ← hadR_set hd hS16]
          exact row_set Hhad.out S true
        have hhlt : hb < wa.heap.size := (Array.getElem?_eq_some_iff.1 Hha.out).1
        obtain ⟨cb', co', e, hca⟩ := (HC.out.on HBa.out) i hil
        cases e
        rw [hci] at hca
        have a1 := hca.c1
        simp only at a1
        have HDa : Hid (Bytes wa da dn db) := hca.by_
        have hSl : S < li.length := by rw [Hlen.out]; exact hS16
        have Hfin : Hid (∀ a' c' w5, Own w5 wa.heap.size a' c' db → Below wa.heap.size wa w5 → Pw A l cs w ob oc hb (i + 1) (w5.setCell ⟨ob, S, none⟩ (.slice a' dn c'))) := by
          intro a' c' w5 hOw hb5
          have hOn := HOa.out.on hb5
          have hBy : Bytes w5 a' dn db := hOw.bytes HDa.out.fit dn HDa.out.n
          refine ⟨⟨li.set S ⟨a', dn, c', db⟩, S :: hd, hOn.put S ⟨a', dn, c', db⟩ hBy hsz ?_, by rw [List.length_set]; exact Hlen.out, ?_, ?_⟩, ?_⟩
          · rcases hOw.parts with ⟨_, _, e⟩ | ⟨g, e, hg, _⟩
            · exact .inl e
            · refine .inr (fun b off e2 => ?_)
              simp only at e2
              rw [e] at e2
              cases e2
              have := hblk.2.1
              refine ⟨by omega, by omega, fun hA' => ?_⟩
              have := HAl.out _ hA'
              have := HBa.out.size
              omega
          · exact (Below.heap_setCell w5 ⟨ob, S, none⟩ _ hb (by simp only; omega)).trans ((hb5.block hb hhlt).trans Hha.out)
          · rw [hch2, List.map_set]
            rfl
          · exact (HBa.out.trans (hb5.mono HBa.out.size)).setCell (p := ⟨ob, S, none⟩) hne.2 _
        have Hq : Hid (∀ w5, Below wa.heap.size wa w5 → w5.cell? ⟨ob, S, none⟩ = some (.slice li[S].a li[S].n li[S].c) ∧ w5.frozen? ⟨ob, S, none⟩ = false) := fun w5 h => ⟨(HOa.out.on h).at hSl, (HOa.out.on h).blk.2.2 S⟩
        have hS16' : (S : Int) < 16 := by omega
        have a2 : (wr.setCell ⟨hb, S, none⟩ (.bool true)).cell? ⟨cb, co + i * 2 + 1, none⟩ = some (.slice da dn dc) := by rw [← hwa]; exact a1
        have Hwa : Hid (wa = wr.setCell ⟨hb, S, none⟩ (.bool true)) := hwa
        clear hwa a1
        clear HP hch hch2 hdr hci HO Hhad HW hO hlen hhad HD hc hca hblk hsz1 hnot HBr HBa HOa Hha hne hhlt
        go_wp2_with (at_builtin; rw [← Hwa.out]; refine wpList_append_bytes rfl _ _ rfl wa.heap.size none 0 0 [] rfl rfl (Own.nil _ _) da dn dc db rfl HDa.out Hnil.out (by omega) wa (Below.refl _ _) (Nat.le_refl _) ?_; intro a' c' w5 HOw hb5 hs5; simp only [Nat.zero_add, List.nil_append] at HOw ⊢; have q0 := (Hq.out w5 hb5).1; have q1 := (Hq.out w5 hb5).2)
        go_roundw
        case rel => exact ⟨i + 1, by omega, by go_num, Hfin.out a' c' w5 HOw.out hb5⟩
        case measure => simp [intOf]; omega
      · have hplan : planS (l.map (·.b)) (cs.map Cg.cs) = (1, []) := by
          unfold planS
          rw [hch, chg_bad (by exact hbad)]
        have R := HP.out (.returned (.tuple #[.slice none 0 0, .int .i64 1])) wr ⟨HBr.out, .inl ⟨by rw [hplan]; decide, by rw [hplan]⟩⟩
        clear HP hch hdr hci hplan HO Hlen HW hO hlen
        by_cases h1 : s < 0
        · go_wp2
          exact R
        · by_cases h2 : 16 ≤ s
          · go_wp2
            exact R
          · obtain ⟨S, rfl⟩ := Int.eq_ofNat_of_zero_le (show 0 ≤ s by omega)
            have hS16 : S < 16 := by omega
            have hat := row_at Hhad.out (i := S) (by rw [hadR_len]; exact hS16)
            have hin : S ∈ hd := by
              refine Decidable.byContradiction (fun hc => hbad ⟨by omega, by omega, by simpa using hc⟩)
            rw [hadR_at hd hS16, decide_eq_true hin] at hat
            clear hhad Hhad hbad
            go_wp2
            exact R
    · obtain rfl : i = n := by omega
      have hge : ¬ (i : Int) < (i : Int) := by omega
      have hfin : chgAll (l.map (·.b)) [] (cs.map Cg.cs) = some (li.map (·.b)) := by
        rw [hch, List.drop_eq_nil_of_le (by rw [List.length_map, Hn.out]; exact Nat.le_refl _)]
        rfl
      have Hfin : Hid (chgAll (l.map (·.b)) [] (cs.map Cg.cs) = some (li.map (·.b))) := hfin
      obtain ⟨d, hdd⟩ : ∃ d, d = li.map (·.b) := ⟨_, rfl⟩
      have Hd : Hid (d = li.map (·.b)) := hdd
      rw [← hdd] at Hfin
      have Hdl : Hid (d.length = 16) := by show _ = _; rw [hdd, List.length_map]; exact Hlen.out
      clear hch hfin hdd HW hO hlen hhad Hhad
      go_wp2_with fail
      obtain ⟨wk, hwk⟩ : ∃ wk, wk = wr := ⟨_, rfl⟩
      subst hwk
      go_loopw [10, 11] (fun x y wr => ∃ (k : Nat), k ≤ 16 ∧ y = .int .i64 (k : Int) ∧ x = .int .i64 ((2 + needTo d k : Nat) : Int) ∧ 2 + needTo d k ≤ 40 ∧ wr = wk) (fun _ y _ => 16 - (intOf y).toNat)
      case atStart => exact ⟨0, by omega, rfl, by simp [needTo, needAll], by simp [needTo, needAll], rfl⟩
      case round =>
        obtain ⟨k, hk, rfl, rfl, hle, rfl⟩ := hrel
        by_cases hk1 : k < 16
        · have hk2 : (k : Int) < 16 := by omega
          have hkl : k < li.length := by rw [Hlen.out]; exact hk1
          have hat := HO.out.at hkl
          have hby := HO.out.by_ k hkl
          have hkd : k < d.length := by rw [Hdl.out]; exact hk1
          have hnx := needTo_next d k hkd
          have hlk : d[k].length = li[k].n := by
            have : d[k] = li[k].b := by
              have e := Hd.out
              subst e
              simp
            rw [this]
            exact hby.1.n
          rw [hlk] at hnx
          have hnn : li[k].n ≤ 140737488351232 := hby.2.1
          have hneed : needI (li[k].n : Int) = (needS li[k].n : Int) := needI_nat _
          have hnb : needS li[k].n ≤ 140737488351232 := by unfold needS; omega
          have hall := needTo_le d (k + 1)
          generalize li[k].a = ka at hat
          generalize li[k].c = kc at hat
          generalize li[k].n = kn at hat hnx hnn hneed hnb
          clear hby hlk
          have hcast : ((2 + needTo d k : Nat) : Int) + (needS kn : Int) = ((2 + needTo d (k + 1) : Nat) : Int) := by rw [hnx]; omega
          obtain ⟨A, hA⟩ : ∃ A, A = 2 + needTo d k := ⟨_, rfl⟩
          obtain ⟨Bn, hBn⟩ : ∃ Bn, Bn = 2 + needTo d (k + 1) := ⟨_, rfl⟩
          obtain ⟨N, hN⟩ : ∃ N, N = needS kn := ⟨_, rfl⟩
          rw [← hA, ← hBn, ← hN] at hcast
          rw [← hA] at hle ⊢
          rw [← hN] at hneed hnb
          have HA : Hid (A = 2 + needTo d k) := hA
          have HBn : Hid (Bn = 2 + needTo d (k + 1)) := hBn
          have hsum : (A : Int) + (N : Int) = (Bn : Int) := hcast
          have Hall : Hid (needTo d (k + 1) ≤ needAll d) := hall
          clear hA hBn hN hnx hall hcast
          go_wp2_with fail
          refine (rneed_c (kn : Int) (by unfold I64; omega) wr).mono ?_
          rintro _ wx ⟨rfl, hwx⟩
          replace hwx := hwx.symm
          subst hwx
          rw [hneed]
          by_cases hgt : 40 < (Bn : Int)
          · have R := HP.out (.returned (.tuple #[.slice none 0 0, .int .i64 11])) wr (by
              have e : planS (l.map (·.b)) (cs.map Cg.cs) = (11, []) := by
                unfold planS
                rw [Hfin.out]
                simp only
                rw [if_neg (by have := Hall.out; have := HBn.out; omega)]
              exact ⟨HBr.out, .inl ⟨by rw [e]; decide, by rw [e]⟩⟩)
            clear HP HO
            go_wp2
            exact R
          · clear HP
            have hbl : Bn ≤ 40 := by omega
            go_wp2
            go_roundw
            case rel => exact ⟨k + 1, by omega, by go_num, by rw [← HBn.out], by rw [← HBn.out]; exact hbl, trivial⟩
            case measure => simp [intOf]; omega
        · obtain rfl : k = 16 := by omega
          have e : planS (l.map (·.b)) (cs.map Cg.cs) = (0, d) := by
            unfold planS
            rw [Hfin.out]
            simp only
            have h2 : needTo d 16 = needAll d := by unfold needTo; rw [List.take_of_length_le (by rw [Hdl.out]; exact Nat.le_refl _)]
            rw [if_pos (by omega)]
          have R := HP.out (.returned (.tuple #[.slice (some ⟨ob, 0, none⟩) 16 oc, .int .i64 0])) wr ⟨HBr.out, .inr ⟨by rw [e], ob, oc, hb, li, rfl, HO.out, Hlen.out, by rw [e, Hd.out]⟩⟩
          clear HP e HO
          go_wp2
          exact R
end Go.Proofs.Ytdjhlpllffakpaa
