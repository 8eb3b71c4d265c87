/-
  Nine lists of numbers in memory, by and by and whole; what a store makes of them; spots that come in.
  The statements' own far, flat and changed.
  The statements' own changed and Land; the document's Map once more, with the memory of its answers.
  The document's Map once more, with the memory of its answers; the statements' own Land.
-/
import Derived.Test.YtbdjgaagafnfaaaGreatBbase
import Derived.Maps.AppendAt
set_option maxRecDepth 20000
namespace Go.Proofs.YtbdjgaagafnfaaaGreat
section
open C Go.RowKit

/-! ### numbers at the beginning of a block -/
def PreI (w : World) (b : Nat) (xs : List Int) : Prop := ∃ cur, w.heap[b]? = some (.cells cur 3 (0, 0)) ∧ xs.length ≤ cur.size ∧ ∀ k, k < xs.length → cur[k]? = some (.int .i64 (xs.getD k 0))
theorem PreI.lt {w : World} {b : Nat} {xs : List Int} (h : PreI w b xs) : b < w.heap.size := by
  obtain ⟨cur, hc, _⟩ := h
  exact (Array.getElem?_eq_some_iff.1 hc).1
theorem PreI.cell {w : World} {b : Nat} {xs : List Int} (h : PreI w b xs) {k : Nat} (hk : k < xs.length) : w.cell? ⟨b, k, none⟩ = some (.int .i64 (xs.getD k 0)) := by
  obtain ⟨cur, hc, _, he⟩ := h
  rw [cell_of_row w b k cur 3 (0, 0) hc]
  exact he k hk
theorem PreI.free {w : World} {b : Nat} {xs : List Int} (h : PreI w b xs) (k : Nat) : w.frozen? ⟨b, k, none⟩ = false := by
  obtain ⟨cur, hc, _⟩ := h
  exact frozen_of_row w b k cur 3 hc
theorem PreI.set {w : World} {b : Nat} {xs : List Int} (h : PreI w b xs) (k : Nat) (x : Int) : PreI (w.setCell ⟨b, k, none⟩ (.int .i64 x)) b (xs.set k x) := by
  obtain ⟨cur, hc, hl, he⟩ := h
  refine ⟨_, heap_setCell_same w b k _ 3 _ hc, by rw [List.length_set, Array.size_setIfInBounds]; exact hl, fun j hj => ?_⟩
  rw [List.length_set] at hj
  by_cases e : k = j
  · subst e
    rw [Array.getElem?_setIfInBounds_self_of_lt (by omega), C.getD_set_self xs k x hj]
  · rw [Array.getElem?_setIfInBounds_ne e, C.getD_set_ne xs x e]
    exact he j hj
theorem PreI.below {w w' : World} {b n : Nat} {xs : List Int} (h : PreI w b xs) (hb : Below n w w') (hn : b < n) : PreI w' b xs := by
  obtain ⟨cur, hc, hr⟩ := h
  exact ⟨cur, (hb.block b hn).trans hc, hr⟩
theorem PreI.other {w : World} {b b' k : Nat} {xs : List Int} {v : Value} (h : PreI w b xs) (hb : b ≠ b') : PreI (w.setCell ⟨b', k, none⟩ v) b xs := by
  obtain ⟨cur, hc, hr⟩ := h
  exact ⟨cur, (Below.heap_setCell w ⟨b', k, none⟩ v b hb).trans hc, hr⟩
theorem PreI.ints {w : World} {b n : Nat} {xs : List Int} (h : PreI w b xs) (hn : xs.length = n) : IntsAt w (some ⟨b, 0, none⟩) n xs :=
  ⟨hn, fun k hk => ⟨b, 0, rfl, by rw [Nat.zero_add]; exact h.cell (by omega)⟩⟩
theorem IBlk.preI {w : World} {b : Nat} {xs : List Int} (h : IBlk w b xs) : PreI w b xs :=
  ⟨_, h, by simp, fun k hk => by simp [hk]⟩
theorem OwnI.preI {w : World} {lo c : Nat} {a : Option Addr} {xs : List Int} (h : OwnI w lo a c xs) (h0 : 0 < xs.length) : ∃ g, a = some ⟨g, 0, none⟩ ∧ lo ≤ g ∧ PreI w g xs := by
  unfold OwnI at h
  rcases h.2 with ⟨_, h1⟩ | ⟨g, cap, cur, hv, hlo, hh, hcap, _, hsz, htk⟩
  · omega
  · simp only [Value.slice.injEq] at hv
    refine ⟨g, hv.1, hlo, cur, hh, by omega, fun k hk => ?_⟩
    have e : (cur.toList.take (xs.length * 1))[k]? = (ivs xs)[k]? := by rw [htk]
    rw [List.getElem?_take_of_lt (by omega)] at e
    rw [Array.getElem?_toList] at e
    rw [e]
    simp [ivs, hk]
/-! ### nine lists -/
structure L9 (w : World) (b : Nat) (g c : Nat → Nat) (ls : List (List Int)) : Prop where
  n : ls.length = 9
  row : ∀ i, i < 9 → w.cell? ⟨b, i, none⟩ = some (.slice (some ⟨g i, 0, none⟩) 256 (c i))
  pre : ∀ i, i < 9 → PreI w (g i) (ls.getD i [])
  len : ∀ i, i < 9 → (ls.getD i []).length = 256
theorem L9.on {w w' : World} {b : Nat} {g c : Nat → Nat} {ls : List (List Int)} (h : L9 w b g c ls) (hb : Below w.heap.size w w') : L9 w' b g c ls :=
  ⟨h.n, fun i hi => cell_below (h.row i hi) hb, fun i hi => (h.pre i hi).below hb (h.pre i hi).lt, h.len⟩
theorem L9.rows {w : World} {b : Nat} {g c : Nat → Nat} {ls : List (List Int)} (h : L9 w b g c ls) : Rows2 w (some ⟨b, 0, none⟩) ls :=
  ⟨fun i hi => by
    have hi' : i < 9 := by rw [← h.n]; exact hi
    refine ⟨b, 0, _, _, rfl, by rw [Nat.zero_add, h.len i hi']; exact h.row i hi', ?_⟩
    exact (h.pre i hi').ints rfl⟩
def Apart9 (g : Nat → Nat) : Prop := ∀ i j, i < 9 → j < 9 → i ≠ j → g i ≠ g j
theorem getD_setL (css : List (List Int)) (i j : Nat) (v : List Int) (hi : i < css.length) : (css.set i v).getD j [] = if i = j then v else css.getD j [] := by
  rw [List.getD_eq_getElem?_getD, List.getD_eq_getElem?_getD, List.getElem?_set]
  by_cases h : i = j
  · rw [if_pos h, if_pos h, if_pos hi]
    rfl
  · rw [if_neg h, if_neg h]
theorem L9.ne {w : World} {b : Nat} {g c : Nat → Nat} {ls : List (List Int)} (h : L9 w b g c ls) {k : Nat} {xs : List Int} (hk : PreI w k xs) (hl : 0 < xs.length) : b ≠ k := fun e => by
  have h1 := h.row 0 (by omega)
  have h2 := hk.cell hl
  rw [← e, h1] at h2
  cases h2
/-- One number of one of them is another one. -/
theorem L9.set {w : World} {b : Nat} {g c : Nat → Nat} {ls : List (List Int)} (h : L9 w b g c ls) (hg : Apart9 g) (n i : Nat) (v : Int) (hn : n < 9) :
    L9 (w.setCell ⟨g n, i, none⟩ (.int .i64 v)) b g c (ls.set n ((ls.getD n []).set i v)) := by
  have hb : b ≠ g n := h.ne (h.pre n hn) (by rw [h.len n hn]; omega)
  refine ⟨by rw [List.length_set]; exact h.n, fun j hj => ?_, fun j hj => ?_, fun j hj => ?_⟩
  · rw [← h.row j hj]
    exact World.cell?_setCell_other w _ _ _ (fun e => hb (by cases e; rfl))
  · rw [getD_setL ls n j _ (by rw [h.n]; exact hn)]
    by_cases e : n = j
    · subst e
      rw [if_pos rfl]
      exact (h.pre n hn).set i v
    · rw [if_neg e]
      exact (h.pre j hj).other (hg j n hj hn (Ne.symm e))
  · rw [getD_setL ls n j _ (by rw [h.n]; exact hn)]
    by_cases e : n = j
    · rw [if_pos e, List.length_set]; exact h.len n hn
    · rw [if_neg e]; exact h.len j hj
/-- A number of another list is another one. -/
theorem L9.other {w : World} {b : Nat} {g c : Nat → Nat} {ls : List (List Int)} (h : L9 w b g c ls) {k j : Nat} {xs : List Int} (hk : PreI w k xs) (hl : 0 < xs.length) (hne : ∀ i, i < 9 → g i ≠ k) (v : Value) : L9 (w.setCell ⟨k, j, none⟩ v) b g c ls :=
  ⟨h.n, fun i hi => by
    rw [← h.row i hi]
    exact World.cell?_setCell_other w _ _ _ (fun e => h.ne hk hl (by cases e; rfl)), fun i hi => (h.pre i hi).other (hne i hi), h.len⟩
/-! ### nine lists by and by, and nine others beside them -/
def slI (p : Nat × Nat) : Value := .slice (some ⟨p.1, 0, none⟩) 256 p.2
structure LandI (w0 : World) (fh fb : Nat → List Int) (nh nb : Nat) (ah : Option Addr) (ch : Nat) (gh : List (Nat × Nat)) (ab : Option Addr) (cb : Nat) (gb : List (Nat × Nat)) (w : World) : Prop where
  lh : gh.length = nh
  lb : gb.length = nb
  oh : w.ownsRow w0.heap.size 44 1 (.slice ah nh ch) nh (gh.map slI)
  ob : w.ownsRow w0.heap.size 44 1 (.slice ab nb cb) nb (gb.map slI)
  ne : ∀ g, Value.ownBlock (.slice ah nh ch) = some g → Value.ownBlock (.slice ab nb cb) ≠ some g
  ph : ∀ i, i < nh → PreI w (gh.getD i (0, 0)).1 (fh i)
  pb : ∀ i, i < nb → PreI w (gb.getD i (0, 0)).1 (fb i)
  nd : ((gh ++ gb).map (·.1)).Nodup
  low : ∀ x ∈ gh ++ gb, w0.heap.size ≤ x.1
  bel : Below w0.heap.size w0 w
theorem LandI.init {w0 : World} {fh fb : Nat → List Int} : LandI w0 fh fb 0 0 none 0 [] none 0 [] w0 :=
  ⟨rfl, rfl, World.ownsRow_nil _ _ _ _, World.ownsRow_nil _ _ _ _, fun g hg => (by simp [Value.ownBlock] at hg), fun i hi => (by omega), fun i hi => (by omega), List.nodup_nil, fun x hx => (by cases hx), Below.refl _ _⟩
theorem LandI.on {w0 w w' : World} {fh fb : Nat → List Int} {nh nb : Nat} {ah ab : Option Addr} {ch cb : Nat} {gh gb : List (Nat × Nat)} (h : LandI w0 fh fb nh nb ah ch gh ab cb gb w) (hb : Below w.heap.size w w') : LandI w0 fh fb nh nb ah ch gh ab cb gb w' :=
  ⟨h.lh, h.lb, ownsRow_on h.oh hb, ownsRow_on h.ob hb, h.ne, fun i hi => (h.ph i hi).below hb (h.ph i hi).lt, fun i hi => (h.pb i hi).below hb (h.pb i hi).lt, h.nd, h.low, h.bel.trans (hb.mono h.bel.size)⟩
theorem LandI.swap {w0 w : World} {fh fb : Nat → List Int} {nh nb : Nat} {ah ab : Option Addr} {ch cb : Nat} {gh gb : List (Nat × Nat)} (h : LandI w0 fh fb nh nb ah ch gh ab cb gb w) : LandI w0 fb fh nb nh ab cb gb ah ch gh w :=
  ⟨h.lb, h.lh, h.ob, h.oh, fun g h1 h2 => h.ne g h2 h1, h.pb, h.ph, by
    have := h.nd
    rw [List.map_append] at this ⊢
    exact (List.perm_append_comm.nodup_iff).1 this, fun x hx => h.low x (by rw [List.mem_append] at hx ⊢; exact hx.symm), h.bel⟩
theorem LandI.lt {w0 w : World} {fh fb : Nat → List Int} {nh nb : Nat} {ah ab : Option Addr} {ch cb : Nat} {gh gb : List (Nat × Nat)} (h : LandI w0 fh fb nh nb ah ch gh ab cb gb w) : ∀ x ∈ gh ++ gb, x.1 < w.heap.size := fun x hx => by
  rcases List.mem_append.1 hx with hx | hx
  · obtain ⟨i, hi, rfl⟩ := List.getElem_of_mem hx
    have := (h.ph i (by have := h.lh; omega)).lt
    rwa [List.getD_eq_getElem?_getD, List.getElem?_eq_getElem hi] at this
  · obtain ⟨i, hi, rfl⟩ := List.getElem_of_mem hx
    have := (h.pb i (by have := h.lb; omega)).lt
    rwa [List.getD_eq_getElem?_getD, List.getElem?_eq_getElem hi] at this
theorem row_lt {w : World} {B e n : Nat} {v : Value} {L : List Value} (h : w.ownsRow B e 1 v n L) : ∀ g, v.ownBlock = some g → B ≤ g ∧ g < w.heap.size := fun g hg => by
  rcases h.2 with ⟨rfl, _⟩ | ⟨g', cap, cur, rfl, hb, hh, _⟩
  · simp [Value.ownBlock] at hg
  · obtain rfl : g' = g := by simpa [Value.ownBlock] using hg
    exact ⟨hb, (Array.getElem?_eq_some_iff.1 hh).1⟩
theorem PreI.row {w w' : World} {B n : Nat} {v : Value} {L : List Value} (h : w.ownsRow B 44 1 v n L) (hg : w.grownBy w' v.ownBlock) {b : Nat} {xs : List Int} (hb : PreI w b xs) : PreI w' b xs := by
  obtain ⟨cur, hc, hr⟩ := hb
  refine ⟨cur, (hg.block b (Array.getElem?_eq_some_iff.1 hc).1 (fun e' => ?_)).trans hc, hr⟩
  rcases h.2 with ⟨rfl, _⟩ | ⟨g', cap, cur', rfl, _, hh, _⟩
  · simp [Value.ownBlock] at e'
  · obtain rfl : b = g' := by simpa [Value.ownBlock] using e'
    rw [hc] at hh
    simp at hh
/-- One list more. -/
theorem LandI.add {w0 w w' : World} {fh fb : Nat → List Int} {nh nb : Nat} {ah ab a' : Option Addr} {ch cb c' : Nat} {gh gb : List (Nat × Nat)} {p : Nat × Nat} (h : LandI w0 fh fb nh nb ah ch gh ab cb gb w) (hp : PreI w p.1 (fh nh)) (hlo : w0.heap.size ≤ p.1) (hnew : ∀ x ∈ gh ++ gb, x.1 ≠ p.1)
    (ho : w'.ownsRow w0.heap.size 44 1 (.slice a' (nh + 1) c') (nh + 1) (gh.map slI ++ [slI p])) (hgr : w.grownBy w' (Value.ownBlock (.slice ah nh ch))) (hat : Value.ownBlock (.slice a' (nh + 1) c') = Value.ownBlock (.slice ah nh ch) ∨ Value.ownBlock (.slice a' (nh + 1) c') = some w.heap.size) :
    LandI w0 fh fb (nh + 1) nb a' c' (gh ++ [p]) ab cb gb w' := by
  have hl := h.lh
  refine ⟨by simp [hl], h.lb, by rw [List.map_append]; exact ho, ownsRow_apart h.ob hgr (fun g h1 h2 => h.ne g h2 h1), fun g h1 h2 => ?_, fun i hi => ?_, fun i hi => (h.pb i hi).row h.oh hgr, ?_, fun x hx => ?_, h.bel.grown hgr h.bel.size (fun k hk => (row_lt h.oh k hk).1)⟩
  · rcases hat with e | e
    · rw [e] at h1
      exact h.ne g h1 h2
    · rw [e] at h1
      have := (row_lt h.ob g h2).2
      simp at h1
      omega
  · by_cases e1 : i < nh
    · rw [List.getD_eq_getElem?_getD, List.getElem?_append_left (by omega), ← List.getD_eq_getElem?_getD]
      exact (h.ph i e1).row h.oh hgr
    · obtain rfl : i = nh := by omega
      rw [List.getD_eq_getElem?_getD, List.getElem?_append_right (by omega), hl, Nat.sub_self]
      exact hp.row h.oh hgr
  · have hperm : List.Perm (((gh ++ [p]) ++ gb).map (·.1)) (p.1 :: (gh ++ gb).map (·.1)) := by
      rw [List.append_assoc, List.map_append, List.map_append, List.map_append]
      exact List.perm_middle
    rw [hperm.nodup_iff, List.nodup_cons]
    refine ⟨fun hm => ?_, h.nd⟩
    rw [List.mem_map] at hm
    obtain ⟨x, hx, e⟩ := hm
    exact hnew x hx e
  · rw [List.append_assoc, List.mem_append] at hx
    rcases hx with hx | hx
    · exact h.low x (List.mem_append_left _ hx)
    · rcases List.mem_append.1 hx with hx | hx
      · rw [List.mem_singleton.1 hx]; exact hlo
      · exact h.low x (List.mem_append_right _ hx)
theorem LandI.nine {w0 w : World} {fh fb : Nat → List Int} {nb : Nat} {ah ab : Option Addr} {ch cb : Nat} {gh gb : List (Nat × Nat)} (h : LandI w0 fh fb 9 nb ah ch gh ab cb gb w) (hl : ∀ i, i < 9 → (fh i).length = 256) :
    ∃ b, ah = some ⟨b, 0, none⟩ ∧ L9 w b (fun i => (gh.getD i (0, 0)).1) (fun i => (gh.getD i (0, 0)).2) ((List.range 9).map fh) ∧ Apart9 (fun i => (gh.getD i (0, 0)).1) ∧ ∀ i, i < 9 → w0.heap.size ≤ (gh.getD i (0, 0)).1 := by
  have hlen := h.lh
  have hget : ∀ i, (hi : i < 9) → gh.getD i (0, 0) = gh[i]'(by omega) := fun i hi => by
    rw [List.getD_eq_getElem?_getD, List.getElem?_eq_getElem (by omega)]
    rfl
  have hf : ∀ i, i < 9 → ((List.range 9).map fh).getD i [] = fh i := fun i hi => by
    rw [List.getD_eq_getElem?_getD, List.getElem?_map, List.getElem?_range hi]
    rfl
  obtain ⟨b, rfl⟩ : ∃ b, ah = some ⟨b, 0, none⟩ := by
    rcases h.oh.2 with ⟨_, h1⟩ | ⟨g, cap, cur, hv, _⟩
    · omega
    · simp only [Value.slice.injEq] at hv
      exact ⟨g, hv.1⟩
  have hnd := h.nd
  rw [List.map_append, List.nodup_append] at hnd
  refine ⟨b, rfl, ⟨by simp, fun i hi => ?_, fun i hi => ?_, fun i hi => ?_⟩, fun i j hi hj hij e1 => ?_, fun i hi => ?_⟩
  · rw [ownsRow_cell h.oh i (by omega), List.getElem?_map, List.getElem?_eq_getElem (by omega), hget i hi]
    rfl
  · rw [hf i hi]; exact h.ph i hi
  · rw [hf i hi]; exact hl i hi
  · simp only [hget i hi, hget j hj] at e1
    have hp := List.pairwise_iff_getElem.1 hnd.1
    rcases Nat.lt_or_gt_of_ne hij with h1 | h1
    · exact hp i j (by simp; omega) (by simp; omega) h1 (by simpa using e1)
    · exact hp j i (by simp; omega) (by simp; omega) h1 (by simpa using e1.symm)
  · rw [hget i hi]
    exact h.low _ (List.mem_append_left _ (List.getElem_mem _))
theorem LandI.apart {w0 w : World} {fh fb : Nat → List Int} {ah ab : Option Addr} {ch cb : Nat} {gh gb : List (Nat × Nat)} (h : LandI w0 fh fb 9 9 ah ch gh ab cb gb w) : ∀ i j, i < 9 → j < 9 → (gh.getD i (0, 0)).1 ≠ (gb.getD j (0, 0)).1 := fun i j hi hj e => by
  have h1 := h.lh
  have h2 := h.lb
  have hnd := h.nd
  rw [List.map_append, List.nodup_append] at hnd
  refine hnd.2.2 _ (List.mem_map.2 ⟨gh[i]'(by omega), List.getElem_mem _, rfl⟩) _ (List.mem_map.2 ⟨gb[j]'(by omega), List.getElem_mem _, rfl⟩) ?_
  rw [List.getD_eq_getElem?_getD, List.getElem?_eq_getElem (show i < gh.length by omega), List.getD_eq_getElem?_getD, List.getElem?_eq_getElem (show j < gb.length by omega)] at e
  exact e
/-- One more value at the end of a row of one's own. -/
theorem wpList_append_row {w : World} {ops : Array Oper} {rest : List Oper} {o : Oper} {a : Act} {Q : Exit → Act → World → Prop}
    (hgd : o.guard = none) (s x : Operand) (ho : o.op = .call { callee := .builtin .append, args := #[s, x], argTypes := #[31, 31] }) (B : Nat) (av : Option Addr) (n cv : Nat) (L : List Value) (hs : a.eval s = .slice av n cv) (hown : w.ownsRow B 44 1 (.slice av n cv) n L)
    (ad : Addr) (p : Nat × Nat) (hx : a.eval x = .slice (some ad) 1 1) (hnews : ∀ j u, [slI p][j]? = some u → w.cell? (ad.add j) = some u) (hle : n ≤ 100000) (hB : B ≤ w.heap.size)
    (h : ∀ a' c' w', w'.ownsRow B 44 1 (.slice a' (n + 1) c') (n + 1) (L ++ [slI p]) → w.grownBy w' (Value.ownBlock (.slice av n cv)) → (Value.ownBlock (.slice a' (n + 1) c') = Value.ownBlock (.slice av n cv) ∨ Value.ownBlock (.slice a' (n + 1) c') = some w.heap.size) → wpList Tryz.prog ops Q rest (a.put o.dst (.slice a' (n + 1) c')) w') : wpList Tryz.prog ops Q (o :: rest) a w := by
  have hinfo : (Tryz.prog.info? 44).map (fun i => (i.zero, i.size, i.bytes)) = some (some (.slice none 0 0), 1, 24) := by kernel_rfl
  obtain ⟨i, hi, hz0, hz1, hz2⟩ := info_parts hinfo
  refine wpList_append_own_at w hgd s x 31 ho B 44 i _ 1 24 Tryz.underlying31 hi hz0 hz1 hz2 rfl (by decide) _ _ _ hs hown ad 1 1 [slI p] hx rfl hnews (by simp [slI, Value.oneCell']) (by unfold maxLen; omega) (by omega) hB ?_
  intro v' w' h1 h2 _ h4
  have e : ∃ a' c', v' = .slice a' (n + 1) c' := by
    rcases h1.2 with ⟨hv, hn⟩ | ⟨g, cap, _, hv, _⟩
    · omega
    · exact ⟨_, _, hv⟩
  obtain ⟨a', c', rfl⟩ := e
  exact h a' c' w' h1 h2 h4
theorem cell_new (W : World) (T : TypeId) (u : Value) : ∀ (j : Nat) (x : Value), [u][j]? = some x → (W.alloc (.cells #[u] T)).cell? (Addr.add ⟨W.heap.size, 0, none⟩ j) = some x := cell_one_int W T u
/-! ### spots -/
structure Spot where
  n : Int
  i : Int
  h : Int
  b : Int
def spot0 : Spot := ⟨0, 0, 0, 0⟩
/-- Spots that a slice shows, in blocks below B. -/
structure SpotsAt (w : World) (B : Nat) (p : Option Addr) (n : Nat) (l : List Spot) : Prop where
  len : l.length = n
  cells : ∀ i, i < n → ∃ b o, p = some ⟨b, o, none⟩ ∧ b < B ∧ w.cell? ⟨b, o + i * 4, none⟩ = some (.int .i64 (l.getD i spot0).n) ∧ w.cell? ⟨b, o + i * 4 + 1, none⟩ = some (.int .i64 (l.getD i spot0).i) ∧ w.cell? ⟨b, o + i * 4 + 2, none⟩ = some (.int .i64 (l.getD i spot0).h) ∧ w.cell? ⟨b, o + i * 4 + 3, none⟩ = some (.int .i64 (l.getD i spot0).b)
  bd : ∀ i, i < n → I64 (l.getD i spot0).n ∧ I64 (l.getD i spot0).i ∧ I64 (l.getD i spot0).h ∧ I64 (l.getD i spot0).b
theorem cell_low {w w' : World} {b j B : Nat} {v : Value} (hv : w.cell? ⟨b, j, none⟩ = some v) (hb : Below B w w') (hB : b < B) : w'.cell? ⟨b, j, none⟩ = some v :=
  (hb.cell (p := ⟨b, j, none⟩) hB).trans hv
theorem SpotsAt.on {w w' : World} {B : Nat} {p : Option Addr} {n : Nat} {l : List Spot} (h : SpotsAt w B p n l) (hb : Below B w w') : SpotsAt w' B p n l :=
  ⟨h.len, fun i hi => by
    obtain ⟨b, o, e, hB, c0, c1, c2, c3⟩ := h.cells i hi
    exact ⟨b, o, e, hB, cell_low c0 hb hB, cell_low c1 hb hB, cell_low c2 hb hB, cell_low c3 hb hB⟩, h.bd⟩
theorem SpotsAt.up {w : World} {B B' : Nat} {p : Option Addr} {n : Nat} {l : List Spot} (h : SpotsAt w B p n l) (hB : B ≤ B') : SpotsAt w B' p n l :=
  ⟨h.len, fun i hi => by
    obtain ⟨b, o, e, h1, c⟩ := h.cells i hi
    exact ⟨b, o, e, by omega, c⟩, h.bd⟩
/-! ### what spots make of ground -/
def chgAt (m : Int) (f : Spot → Int) (ls : List (List Int)) (q : Spot) : List (List Int) := ls.set (q.n % 9).toNat ((ls.getD (q.n % 9).toNat []).set (q.i % 256).toNat (f q % m))
def chg (m : Int) (f : Spot → Int) (ls : List (List Int)) (l : List Spot) : Nat → List (List Int)
  | 0 => ls
  | i + 1 => chgAt m f (chg m f ls l i) (l.getD i spot0)
theorem chg_ok {m : Int} (hm : 0 < m) {f : Spot → Int} {ls : List (List Int)} {l : List Spot} (h : okG m ls) : ∀ n, okG m (chg m f ls l n)
  | 0 => h
  | n + 1 => by
    obtain ⟨h1, h2⟩ := chg_ok hm (f := f) (l := l) h n
    show okG m (chgAt m f (chg m f ls l n) (l.getD n spot0))
    unfold chgAt
    generalize l.getD n spot0 = q at *
    generalize chg m f ls l n = L at *
    have hq : (q.n % 9).toNat < L.length := by rw [h1]; omega
    refine ⟨by rw [List.length_set]; exact h1, fun i hi => ?_⟩
    rw [getD_setL L _ i _ hq]
    by_cases e : (q.n % 9).toNat = i
    · rw [if_pos e, e]
      refine ⟨by rw [List.length_set]; exact (h2 i hi).1, fun k hk => ?_⟩
      rw [getD_set _ _ _ _ (by rw [(h2 i hi).1]; omega)]
      by_cases e2 : (q.i % 256).toNat = k
      · rw [if_pos e2]
        exact ⟨Int.emod_nonneg _ (by omega), Int.emod_lt_of_pos _ hm⟩
      · rw [if_neg e2]
        exact (h2 i hi).2 k hk
    · rw [if_neg e]
      exact h2 i hi
theorem red_facts (v m : Int) (h1 : 0 < m) : ∃ t, Int.tmod v m = t ∧ (-m < t ∧ t < m) ∧ Int.tmod (t + m) m = v % m := by
  refine ⟨_, rfl, ⟨by have := Int.lt_tmod_of_pos v h1; omega, Int.tmod_lt_of_pos v h1⟩, ?_⟩
  have := Int.lt_tmod_of_pos v h1
  rw [Int.tmod_eq_emod_of_nonneg (by omega), Int.add_emod_right, Int.tmod_def]
  exact Int.sub_mul_emod_self_left v m (v.tdiv m)
end
section
open C Go.RowKit

theorem far_c (cx cz : Int) (β : Bool) (w : World) (hβ : β = false ↔ Far 1073741824 cx ∧ Far 1073741824 cz) : Calls Tryz.prog 6 #[.agg #[.int .i64 cx, .int .i64 cz]] w fun e w' => e = .returned (.bool β) ∧ Below w.heap.size w w' := by
  have HB : Hid (Below w.heap.size w (w.alloc (.cells #[.int .i64 cx, .int .i64 cz] 24))) := (Below.refl _ _).alloc (Nat.le_refl _) _
  have yes : ¬ (Far 1073741824 cx ∧ Far 1073741824 cz) → β = true := fun h => by
    rcases β with _ | _
    · exact absurd (hβ.1 rfl) h
    · rfl
  by_cases h0 : cx < -1073741824
  · obtain rfl := yes (fun h => by have := h.1.1; omega)
    clear hβ yes
    go_enter Tryz.func6, Tryz.ntmps6
    go_wp2
    go_ret
    exact ⟨rfl, HB.out⟩
  by_cases h1 : 1073741824 < cx
  · obtain rfl := yes (fun h => by have := h.1.2; omega)
    clear hβ yes
    go_enter Tryz.func6, Tryz.ntmps6
    go_wp2
    go_ret
    exact ⟨rfl, HB.out⟩
  by_cases h2 : cz < -1073741824
  · obtain rfl := yes (fun h => by have := h.2.1; omega)
    clear hβ yes
    go_enter Tryz.func6, Tryz.ntmps6
    go_wp2
    go_ret
    exact ⟨rfl, HB.out⟩
  by_cases h3 : 1073741824 < cz
  · obtain rfl := yes (fun h => by have := h.2.2; omega)
    clear hβ yes
    go_enter Tryz.func6, Tryz.ntmps6
    go_wp2
    go_ret
    exact ⟨rfl, HB.out⟩
  obtain rfl : β = false := hβ.2 ⟨⟨by omega, by omega⟩, by omega, by omega⟩
  clear hβ yes
  go_enter Tryz.func6, Tryz.ntmps6
  go_wp2
  go_ret
  exact ⟨rfl, HB.out⟩
theorem make256 (w : World) : (Instr.makeSlice 44 (.int .i64 256) (.int .i64 256)).run Tryz.prog w = .ok (.slice (some ⟨w.heap.size, 0, none⟩) 256 256) (w.alloc (.cells (vals64 (List.replicate 256 0)) 3)) := by
  have := run_make_row' (P := Tryz.prog) 44 3 (.int .i64 0) 8 Tryz.underlying44 info3 rfl .i64 .i64 256 (by omega) (by omega) w
  rw [made_vals64] at this
  exact this
/-- Nine lists of one number. -/
def flatN (v : Int) : List (List Int) := (List.range 9).map fun _ => List.replicate 256 v
theorem flat_ok {m v : Int} (h0 : 0 ≤ v) (h1 : v < m) : okG m (flatN v) := ⟨by simp [flatN], fun i hi => by
  have e : (flatN v).getD i [] = List.replicate 256 v := by
    unfold flatN
    rw [List.getD_eq_getElem?_getD, List.getElem?_map, List.getElem?_range hi]
    rfl
  rw [e]
  refine ⟨List.length_replicate, fun k hk => ?_⟩
  rw [List.getD_eq_getElem?_getD, List.getElem?_replicate_of_lt hk]
  exact ⟨h0, h1⟩⟩
def FlatSay (v : Int) (w : World) (e : Ending) (w' : World) : Prop := Below w.heap.size w w' ∧ ∃ b cp g c, e = .returned (.slice (some ⟨b, 0, none⟩) 9 cp) ∧ L9 w' b g c (flatN v)
set_option maxRecDepth 100000 in
set_option maxHeartbeats 2000000 in
theorem flat_c (v : Int) (w : World) : Calls Tryz.prog 15 #[.int .i64 v] w (FlatSay v w) := by
  obtain ⟨Post, hPost⟩ : ∃ Post : Ending → World → Prop, Post = FlatSay v w := ⟨_, rfl⟩
  rw [← hPost]
  have HP : Hid (∀ e w', FlatSay v w e w' → Post e w') := fun e w' h => by rw [hPost]; exact h
  clear hPost
  have hmk := make256
  obtain ⟨Z, hZ⟩ : ∃ Z, Z = List.replicate 256 (0 : Int) := ⟨_, rfl⟩
  rw [← hZ] at hmk
  have hZl : Z.length = 256 := by rw [hZ, List.length_replicate]
  clear hZ
  go_enter Tryz.func15, Tryz.ntmps15
  go_wp2
  go_loopw [3, 4] (fun vo vi wr => ∃ (i : Nat) (av : Option Addr) (cv : Nat) (gs : List (Nat × Nat)), vi = .int .i64 (i : Int) ∧ vo = .slice av i cv ∧ i ≤ 9 ∧ Hid (LandI w (fun _ => List.replicate 256 v) (fun _ => []) i 0 av cv gs none 0 [] wr)) (fun _ vi _ => 9 - (intOf vi).toNat)
  case atStart => exact ⟨0, none, 0, [], rfl, rfl, by omega, LandI.init⟩
  case round =>
    obtain ⟨i, av, cv, gs, rfl, rfl, hi, HM⟩ := hrel
    by_cases hlt : i < 9
    case neg =>
      have hge : ¬ (i : Int) < 9 := by omega
      obtain rfl : i = 9 := by omega
      obtain ⟨b, rfl, hL, _, _⟩ := HM.out.nine (fun _ _ => List.length_replicate)
      have R := HP.out (.returned (.slice (some ⟨b, 0, none⟩) 9 cv)) wr ⟨HM.out.bel, b, cv, _, _, rfl, hL⟩
      clear HM HP hL
      go_wp2
      exact R
    have hlt' : (i : Int) < 9 := by omega
    obtain ⟨wq, hwq⟩ : ∃ wq, wq = wr := ⟨_, rfl⟩
    subst hwq
    have HIB : Hid (IBlk (wq.alloc (.cells (vals64 Z) 3)) wq.heap.size (filTo Z 0 v 0)) := by
      show IBlk _ _ _
      exact heap_alloc_new wq _
    have HBl : Hid (Below wq.heap.size wq (wq.alloc (.cells (vals64 Z) 3))) := (Below.refl _ wq).alloc (Nat.le_refl _) _
    go_wp2
    generalize wq.alloc (.cells (vals64 Z) 3) = w2 at *
    go_loopw [6] (fun vk wr => ∃ (K : Nat), vk = .int .i64 (K : Int) ∧ K ≤ 256 ∧ Hid (IBlk wr wq.heap.size (filTo Z 0 v K) ∧ Below wq.heap.size wq wr)) (fun vk _ => 256 - (intOf vk).toNat)
    case atStart => exact ⟨0, rfl, by omega, HIB.out, HBl.out⟩
    case round =>
      clear HIB HBl
      obtain ⟨K, rfl, hK, HK⟩ := hrel
      by_cases hk : K < 256
      case neg =>
        have hge : ¬ (K : Int) < 256 := by omega
        obtain rfl : K = 256 := by omega
        have hIB : IBlk wr wq.heap.size (List.replicate 256 v) := by have := HK.out.1; rwa [filTo_full Z v 256 hZl] at this
        have HM1 : Hid (LandI w (fun _ => List.replicate 256 v) (fun _ => []) i 0 av cv gs none 0 [] (wr.alloc (.cells #[slI (wq.heap.size, 256)] 44))) := (HM.out.on HK.out.2).on ((Below.refl _ _).alloc (Nat.le_refl _) _)
        have Hnew : Hid (∀ x ∈ gs ++ [], x.1 ≠ wq.heap.size) := fun x hx e => by have := HM.out.lt x hx; omega
        have Hlow : Hid (w.heap.size ≤ wq.heap.size) := HM.out.bel.size
        have HG1 : Hid (PreI (wr.alloc (.cells #[slI (wq.heap.size, 256)] 44)) wq.heap.size (List.replicate 256 v)) := hIB.preI.below ((Below.refl _ _).alloc (Nat.le_refl _) _) hIB.lt
        clear hIB HM HK
        generalize wq.heap.size = gw at *
        go_wp2_with (at_builtin; refine wpList_append_row rfl _ _ rfl w.heap.size av i cv (gs.map slI) rfl HM1.out.oh ⟨wr.heap.size, 0, none⟩ (gw, 256) rfl (cell_new _ _ _) (by omega) HM1.out.bel.size ?_; intro a3 c3 w3 hO3 hgr3 hat3; have HM3 : Hid (LandI w (fun _ => List.replicate 256 v) (fun _ => []) (i + 1) 0 a3 c3 (gs ++ [(gw, 256)]) none 0 [] w3) := HM1.out.add HG1.out Hlow.out Hnew.out hO3 hgr3 hat3; clear hO3 hgr3 hat3 HM1)
        exact ⟨⟨i + 1, a3, c3, gs ++ [(gw, 256)], by simp, rfl, by omega, HM3⟩, by simp [intOf]; omega⟩
      have hk' : (K : Int) < 256 := by omega
      have hc := HK.out.1.cell (k := K) (by rw [filTo_length, hZl]; exact hk)
      have hf := HK.out.1.free K
      have HK2 : Hid (IBlk (wr.setCell ⟨wq.heap.size, K, none⟩ (.int .i64 v)) wq.heap.size (filTo Z 0 v (K + 1)) ∧ Below wq.heap.size wq (wr.setCell ⟨wq.heap.size, K, none⟩ (.int .i64 v))) := by
        refine ⟨?_, HK.out.2.setCell (p := ⟨wq.heap.size, K, none⟩) (Nat.le_refl _) _⟩
        show IBlk _ _ ((filTo Z 0 v K).set (0 + K) v)
        rw [Nat.zero_add]
        exact HK.out.1.set K v
      generalize (filTo Z 0 v K).getD K 0 = x at hc
      clear HK HM
      go_wp2
      exact ⟨⟨K + 1, by simp, by omega, HK2⟩, by simp [intOf]; omega⟩
end
section
open C Go.RowKit

def ChSay (b : Nat) (g c : Nat → Nat) (hs : List (List Int)) (b' : Nat) (g' c' : Nat → Nat) (bs : List (List Int)) (B : Nat) (w : World) (e : Ending) (w' : World) : Prop :=
  e = .returned (.tuple #[]) ∧ L9 w' b g c hs ∧ L9 w' b' g' c' bs ∧ Below B w w'
set_option maxRecDepth 100000 in
set_option maxHeartbeats 2000000 in
theorem changed_c (b cp : Nat) (g c : Nat → Nat) (hs : List (List Int)) (b' cp' : Nat) (g' c' : Nat → Nat) (bs : List (List Int)) (B : Nat) (p : Option Addr) (n cl : Nat) (l : List Spot) (w : World)
    (hH : L9 w b g c hs) (hB : L9 w b' g' c' bs) (hg : Apart9 g) (hg' : Apart9 g') (hne : ∀ i j, i < 9 → j < 9 → g i ≠ g' j) (hlo : ∀ i, i < 9 → B ≤ g i ∧ B ≤ g' i) (hl : SpotsAt w B p n l) (hn : n ≤ 9223372036854775807) :
    Calls Tryz.prog 19 #[.slice (some ⟨b, 0, none⟩) 9 cp, .slice (some ⟨b', 0, none⟩) 9 cp', .slice p n cl] w (ChSay b g c (chg 128 (·.h) hs l (min n 3000)) b' g' c' (chg 4 (·.b) bs l (min n 3000)) B w) := by
  obtain ⟨Post, hPost⟩ : ∃ Post : Ending → World → Prop, Post = ChSay b g c (chg 128 (·.h) hs l (min n 3000)) b' g' c' (chg 4 (·.b) bs l (min n 3000)) B w := ⟨_, rfl⟩
  rw [← hPost]
  have HP : Hid (∀ w', L9 w' b g c (chg 128 (·.h) hs l (min n 3000)) → L9 w' b' g' c' (chg 4 (·.b) bs l (min n 3000)) → Below B w w' → Post (.returned (.tuple #[])) w') := fun w' h1 h2 h3 => by rw [hPost]; exact ⟨rfl, h1, h2, h3⟩
  clear hPost
  have HA : Hid (Apart9 g ∧ Apart9 g' ∧ (∀ i j, i < 9 → j < 9 → g i ≠ g' j) ∧ ∀ i, i < 9 → B ≤ g i ∧ B ≤ g' i) := ⟨hg, hg', hne, hlo⟩
  have HL : Hid (SpotsAt w B p n l) := hl
  have H0 : Hid (L9 w b g c hs ∧ L9 w b' g' c' bs) := ⟨hH, hB⟩
  clear hg hg' hne hlo hl hH hB
  go_enter Tryz.func19, Tryz.ntmps19
  go_wp2
  go_loopw [6] (fun v wr => ∃ i : Nat, v = .int .i64 (i : Int) ∧ i ≤ n ∧ i ≤ 3000 ∧ Hid (L9 wr b g c (chg 128 (·.h) hs l i) ∧ L9 wr b' g' c' (chg 4 (·.b) bs l i) ∧ Below B w wr)) (fun v _ => 3000 - (intOf v).toNat)
  case atStart => exact ⟨0, rfl, by omega, by omega, H0.out.1, H0.out.2, Below.refl _ _⟩
  case round =>
    clear H0
    obtain ⟨i, rfl, hi, hi3, HM⟩ := hrel
    by_cases hin : i < n
    case neg =>
      have hge : ¬ (i : Int) < (n : Int) := by omega
      have e : i = min n 3000 := by omega
      have R := HP.out wr (by rw [← e]; exact HM.out.1) (by rw [← e]; exact HM.out.2.1) HM.out.2.2
      clear HP HM e
      go_wp2
      go_end0
      exact R
    by_cases h3 : i < 3000
    case neg =>
      have hlt : (i : Int) < (n : Int) := by omega
      have hge : ¬ (i : Int) < 3000 := by omega
      have e : i = min n 3000 := by omega
      have R := HP.out wr (by rw [← e]; exact HM.out.1) (by rw [← e]; exact HM.out.2.1) HM.out.2.2
      clear HP HM e
      go_wp2
      go_end0
      exact R
    have hlt : (i : Int) < (n : Int) := by omega
    have hl3 : (i : Int) < 3000 := by omega
    have hsp := HL.out.on HM.out.2.2
    obtain ⟨sb, so, rfl, hsb, c0, c1, c2, c3⟩ := hsp.cells i hin
    obtain ⟨⟨n0, n1⟩, ⟨i0, i1⟩, ⟨h0, h1⟩, b0, b1⟩ := HL.out.bd i hin
    have HcH : Hid (chg 128 (·.h) hs l (i + 1) = chgAt 128 (·.h) (chg 128 (·.h) hs l i) (l.getD i spot0)) := rfl
    have HcB : Hid (chg 4 (·.b) bs l (i + 1) = chgAt 4 (·.b) (chg 4 (·.b) bs l i) (l.getD i spot0)) := rfl
    unfold chgAt at HcH HcB
    generalize l.getD i spot0 = q at *
    obtain ⟨qn, qi, qh, qb⟩ := q
    simp only at c0 c1 c2 c3 n0 n1 i0 i1 h0 h1 b0 b1 HcH HcB
    generalize chg 128 (·.h) hs l i = HS at *
    generalize chg 4 (·.b) bs l i = BS at *
    obtain ⟨t1, e1, ⟨b11, b12⟩, f1⟩ := red_facts qn 9 (by omega)
    obtain ⟨t2, e2, ⟨b21, b22⟩, f2⟩ := red_facts qi 256 (by omega)
    obtain ⟨t3, e3, ⟨b31, b32⟩, f3⟩ := red_facts qh 128 (by omega)
    obtain ⟨t4, e4, ⟨b41, b42⟩, f4⟩ := red_facts qb 4 (by omega)
    obtain ⟨N, hN⟩ : ∃ N : Nat, qn % 9 = (N : Int) := ⟨(qn % 9).toNat, by omega⟩
    obtain ⟨K, hK⟩ : ∃ K : Nat, qi % 256 = (K : Int) := ⟨(qi % 256).toNat, by omega⟩
    have hN9 : N < 9 := by omega
    have hK9 : K < 256 := by omega
    rw [hN] at f1
    rw [hK] at f2
    rw [hN, hK, Int.toNat_natCast, Int.toNat_natCast] at HcH HcB
    obtain ⟨VH, hVH⟩ : ∃ VH, VH = qh % 128 := ⟨_, rfl⟩
    obtain ⟨VB, hVB⟩ : ∃ VB, VB = qb % 4 := ⟨_, rfl⟩
    rw [← hVH] at f3 HcH
    rw [← hVB] at f4 HcB
    clear hVH hVB hN hK hsp
    obtain ⟨U3, hU3⟩ : ∃ U3, U3 = t3 + 128 := ⟨_, rfl⟩
    have g3 : IntKind.i64.wrap (t3 + 128) = U3 := by rw [IntKind.wrap_i64, hU3]; omega
    rw [← hU3] at f3
    clear hU3
    obtain ⟨U4, hU4⟩ : ∃ U4, U4 = t4 + 4 := ⟨_, rfl⟩
    have g4 : IntKind.i64.wrap (t4 + 4) = U4 := by rw [IntKind.wrap_i64, hU4]; omega
    rw [← hU4] at f4
    clear hU4
    have hN9' : (N : Int) < 9 := by omega
    have hK9' : (K : Int) < 256 := by omega
    have rH := HM.out.1.row N hN9
    have pH := (HM.out.1.pre N hN9).cell (k := K) (by rw [HM.out.1.len N hN9]; exact hK9)
    have fH := (HM.out.1.pre N hN9).free K
    have HMd : Hid (L9 (wr.drewN 1) b g c HS ∧ L9 (wr.drewN 1) b' g' c' BS ∧ Below B w (wr.drewN 1)) := ⟨⟨HM.out.1.n, HM.out.1.row, HM.out.1.pre, HM.out.1.len⟩, ⟨HM.out.2.1.n, HM.out.2.1.row, HM.out.2.1.pre, HM.out.2.1.len⟩, below_drewN HM.out.2.2 1⟩
    generalize (HS.getD N []).getD K 0 = oldH at pH
    go_wp2_with fail
    refine wp_region_tail 14 (by kernel_rfl) (by kernel_rfl) ?_
    simp only [List.take_succ_cons, List.take_zero, List.drop_succ_cons, List.drop_zero]
    repeat still_step
    refine wpStill_nil ?_
    clear pH fH rH c0 c1 c2 hlt hl3 e1 f1 e2 f2 e3 f3 g3
    have pH := (HMd.out.1.pre N hN9).cell (k := K) (by rw [HMd.out.1.len N hN9]; exact hK9)
    have fH := (HMd.out.1.pre N hN9).free K
    have HH2 : Hid (L9 ((wr.drewN 1).setCell ⟨g N, K, none⟩ (.int .i64 VH)) b g c (HS.set N ((HS.getD N []).set K VH))) := HMd.out.1.set HA.out.1 N K VH hN9
    have HB2 : Hid (L9 ((wr.drewN 1).setCell ⟨g N, K, none⟩ (.int .i64 VH)) b' g' c' BS) := HMd.out.2.1.other (HMd.out.1.pre N hN9) (by rw [HMd.out.1.len N hN9]; omega) (fun j hj e => HA.out.2.2.1 N j hN9 hj e.symm) _
    have HL2 : Hid (Below B w ((wr.drewN 1).setCell ⟨g N, K, none⟩ (.int .i64 VH))) := HMd.out.2.2.setCell (p := ⟨g N, K, none⟩) (HA.out.2.2.2 N hN9).1 _
    have c3' : wr.drewN 1 = wr.drewN 1 → ((wr.drewN 1).setCell ⟨g N, K, none⟩ (.int .i64 VH)).cell? ⟨sb, so + i * 4 + 3, none⟩ = some (.int .i64 qb) := fun _ => by
      have hne : g N ≠ sb := by have := (HA.out.2.2.2 N hN9).1; omega
      rw [World.cell?_setCell_other _ _ _ _ (fun e => hne (by cases e; rfl))]
      exact c3
    clear c3 HM HMd
    generalize wr.drewN 1 = va at *
    have c3 := c3' rfl
    clear c3'
    generalize (HS.getD N []).getD K 0 = oldH at pH
    go_wp2_with fail
    clear pH fH
    generalize va.setCell ⟨g N, K, none⟩ (.int .i64 VH) = vb at *
    have hlt : (i : Int) < (n : Int) := by omega
    have rB := HB2.out.row N hN9
    have pB := (HB2.out.pre N hN9).cell (k := K) (by rw [HB2.out.len N hN9]; exact hK9)
    have HMd : Hid (L9 (vb.drewN 1) b g c (HS.set N ((HS.getD N []).set K VH)) ∧ L9 (vb.drewN 1) b' g' c' BS ∧ Below B w (vb.drewN 1)) := ⟨⟨HH2.out.n, HH2.out.row, HH2.out.pre, HH2.out.len⟩, ⟨HB2.out.n, HB2.out.row, HB2.out.pre, HB2.out.len⟩, below_drewN HL2.out 1⟩
    clear pB
    refine wp_region_tail 14 (by kernel_rfl) (by kernel_rfl) ?_
    simp only [List.take_succ_cons, List.take_zero, List.drop_succ_cons, List.drop_zero]
    repeat still_step
    refine wpStill_nil ?_
    clear rB c3 hlt e4 f4 g4 HH2 HB2 HL2
    have pB := (HMd.out.2.1.pre N hN9).cell (k := K) (by rw [HMd.out.2.1.len N hN9]; exact hK9)
    have fB := (HMd.out.2.1.pre N hN9).free K
    have HE : Hid (L9 ((vb.drewN 1).setCell ⟨g' N, K, none⟩ (.int .i64 VB)) b g c (chg 128 (·.h) hs l (i + 1)) ∧ L9 ((vb.drewN 1).setCell ⟨g' N, K, none⟩ (.int .i64 VB)) b' g' c' (chg 4 (·.b) bs l (i + 1)) ∧ Below B w ((vb.drewN 1).setCell ⟨g' N, K, none⟩ (.int .i64 VB))) := by
      rw [HcH.out, HcB.out]
      exact ⟨HMd.out.1.other (HMd.out.2.1.pre N hN9) (by rw [HMd.out.2.1.len N hN9]; omega) (fun j hj e => HA.out.2.2.1 j N hj hN9 e) _, HMd.out.2.1.set HA.out.2.1 N K VB hN9, HMd.out.2.2.setCell (p := ⟨g' N, K, none⟩) (HA.out.2.2.2 N hN9).2 _⟩
    clear HMd
    generalize vb.drewN 1 = vc at *
    generalize (BS.getD N []).getD K 0 = oldB at pB
    go_wp2
    exact ⟨⟨i + 1, by simp, by omega, by omega, HE⟩, by simp [intOf]; omega⟩
end
section
open N C Go.RowKit

def MapSay (S : Nat) (x z : Int) (w : World) (e : Ending) (w' : World) : Prop := Below w.heap.size w w' ∧ ∃ g c g' c', e = .returned (.tuple #[.slice (some ⟨g, 0, none⟩) 256 c, .slice (some ⟨g', 0, none⟩) 256 c']) ∧ PreI w' g (mapH S x z) ∧ PreI w' g' (mapB S x z) ∧ g ≠ g' ∧ w.heap.size ≤ g ∧ w.heap.size ≤ g'
set_option maxHeartbeats 1000000 in
theorem rmap2_c (S : Nat) (x z : Int) (w : World) (hS : S < 18446744073709551616) (hx : Far 1073741825 x) (hz : Far 1073741825 z) :
    Calls Tryz.prog 18 #[.int .u64 S, .agg #[.int .i64 x, .int .i64 z]] w (MapSay S x z w) := by
  obtain ⟨Post, hPost⟩ : ∃ Post : Ending → World → Prop, Post = (MapSay S x z w) := ⟨_, rfl⟩
  rw [← hPost]
  have HP : Hid (∀ g c g' c' w', Below w.heap.size w w' → PreI w' g (mapH S x z) → PreI w' g' (mapB S x z) → g ≠ g' → w.heap.size ≤ g → w.heap.size ≤ g' → Post (.returned (.tuple #[.slice (some ⟨g, 0, none⟩) 256 c, .slice (some ⟨g', 0, none⟩) 256 c'])) w') := fun g c g' c' w' h1 h2 h3 h4 h5 h6 => by rw [hPost]; exact ⟨h1, g, c, g', c', rfl, h2, h3, h4, h5, h6⟩
  clear hPost
  obtain ⟨hx1, hx2⟩ := hx
  obtain ⟨hz1, hz2⟩ := hz
  have Hb0 : Hid (Below w.heap.size w (w.alloc (.cells #[.int .i64 x, .int .i64 z] 24))) := (Below.refl _ _).alloc (Nat.le_refl _) _
  have HX0 : Hid ((w.alloc (.cells #[.int .i64 x, .int .i64 z] 24)).heap[w.heap.size]? = some (.cells #[.int .i64 x, .int .i64 z] 24 (0, 0))) := heap_alloc_new w (.cells #[.int .i64 x, .int .i64 z] 24)
  have hsz : (w.alloc (.cells #[.int .i64 x, .int .i64 z] 24)).heap.size = w.heap.size + 1 := by simp
  have Hlh : Hid ((mapH S x z).length = 256) := mapH_len S x z
  have Hlb : Hid ((mapB S x z).length = 256) := mapB_len S x z
  have Hth : Hid (∀ i, i < 256 → (mapH S x z).take (i + 1) = (mapH S x z).take i ++ [hOf S (x * 16 + (i : Int) % 16) (z * 16 + (i : Int) / 16)]) := fun i h => mapH_take S x z i h
  have Htb : Hid (∀ i, i < 256 → (mapB S x z).take (i + 1) = (mapB S x z).take i ++ [bandOf S (x * 16 + (i : Int) % 16) (z * 16 + (i : Int) / 16)]) := fun i h => mapB_take S x z i h
  generalize mapH S x z = HL at *
  generalize mapB S x z = BL at *
  go_enter Tryz.func18, Tryz.ntmps18
  go_wp2_with fail
  generalize w.alloc (.cells #[.int .i64 x, .int .i64 z] 24) = w0 at *
  go_loopw [6, 7, 8] (fun vh vb vi wr => ∃ (i : Nat) (ah : Option Addr) (ch : Nat) (ab : Option Addr) (cb : Nat), i ≤ 256 ∧ vi = .int .i64 (i : Int) ∧ vh = .slice ah i ch ∧ vb = .slice ab i cb ∧ Hid (Two w0 ah ch i (HL.take i) ab cb i (BL.take i) wr)) (fun _ _ vi _ => 256 - (intOf vi).toNat)
  case atStart => exact ⟨0, none, 0, none, 0, by omega, by go_num, rfl, rfl, ⟨World.ownsRow_nil _ _ _ _, World.ownsRow_nil _ _ _ _, rfl, rfl, fun g hg => by simp [Value.ownBlock] at hg, Below.refl _ _⟩⟩
  case round =>
    obtain ⟨i, ah, ch, ab, cb, hi, rfl, rfl, rfl, HT⟩ := hrel
    by_cases hlt : i < 256
    · have hlt' : (i : Int) < 256 := by omega
      have hX := (HT.out.bel.block w.heap.size (by omega)).trans HX0.out
      have y0 : wr.cell? ⟨w.heap.size, 0, none⟩ = some (.int .i64 x) := (cell_of_row wr _ 0 _ 24 (0, 0) hX).trans rfl
      have y1 : wr.cell? ⟨w.heap.size, 1, none⟩ = some (.int .i64 z) := (cell_of_row wr _ 1 _ 24 (0, 0) hX).trans rfl
      have eh := Hth.out i hlt
      have eb := Htb.out i hlt
      clear hX HP
      have hXi : I64 (x * 16 + (i : Int) % 16) := ⟨by omega, by omega⟩
      have hZi : I64 (z * 16 + (i : Int) / 16) := ⟨by omega, by omega⟩
      have HXi : Hid (I64 (x * 16 + (i : Int) % 16)) := hXi
      have HZi : Hid (I64 (z * 16 + (i : Int) / 16)) := hZi
      clear hXi hZi
      go_wp2_with fail
      clear y0 y1
      generalize x * 16 + (i : Int) % 16 = X at *
      generalize z * 16 + (i : Int) / 16 = Z at *
      refine (rof_c S X Z wr hS HXi.out HZi.out).mono ?_
      rintro _ w1 ⟨rfl, hb1⟩
      have HT1 : Hid (Two w0 ah ch i (HL.take i) ab cb i (BL.take i) (w1.alloc (.cells #[.int .i64 (hOf S X Z)] 3))) := (HT.out.on hb1).on ((Below.refl _ _).alloc (Nat.le_refl _) _)
      clear hb1 HT
      generalize hOf S X Z = hv at *
      obtain ⟨H0, hH0⟩ : ∃ H0, H0 = HL.take i := ⟨_, rfl⟩
      obtain ⟨B0, hB0⟩ : ∃ B0, B0 = BL.take i := ⟨_, rfl⟩
      rw [← hH0] at eh HT1
      rw [← hB0] at eb HT1
      clear hH0 hB0
      have Heh : Hid (HL.take (i + 1) = H0 ++ [hv]) := eh
      have Heb : Hid (BL.take (i + 1) = B0 ++ [bandOf S X Z]) := eb
      clear eh eb
      go_wp2_with (at_builtin; refine wpList_append_int rfl _ _ rfl w0.heap.size ah i ch H0 HT1.out.lh rfl HT1.out.h ⟨w1.heap.size, 0, none⟩ hv rfl (cell_one_int _ _ _) (by omega) HT1.out.bel.size ?_; intro a3 c3 w3 HO3 hg3 hat3)
      have HT3 : Hid (Two w0 a3 c3 (i + 1) (H0 ++ [hv]) ab cb i B0 w3) := HT1.out.add HO3.out hg3 hat3
      clear HO3 hg3 hat3 HT1
      go_wp2_with fail
      refine (rband_c S X Z w3 hS HXi.out HZi.out).mono ?_
      rintro _ w4 ⟨rfl, hb4⟩
      have HT4 : Hid (Two w0 a3 c3 (i + 1) (H0 ++ [hv]) ab cb i B0 (w4.alloc (.cells #[.int .i64 (bandOf S X Z)] 3))) := (HT3.out.on hb4).on ((Below.refl _ _).alloc (Nat.le_refl _) _)
      clear hb4 HT3
      generalize bandOf S X Z = bv at *
      go_wp2_with (at_builtin; refine wpList_append_int rfl _ _ rfl w0.heap.size ab i cb B0 HT4.out.lb rfl HT4.out.b ⟨w4.heap.size, 0, none⟩ bv rfl (cell_one_int _ _ _) (by omega) HT4.out.bel.size ?_; intro a5 c5 w5 HO5 hg5 hat5)
      have HT5 : Hid (Two w0 a3 c3 (i + 1) (HL.take (i + 1)) a5 c5 (i + 1) (BL.take (i + 1)) w5) := by rw [Heh.out, Heb.out]; exact (HT4.out.swap.add HO5.out hg5 hat5).swap
      clear HO5 hg5 hat5 HT4
      go_wp2
      go_roundw
      case rel => first | exact ⟨i + 1, a3, c3, a5, c5, by omega, by go_num, rfl, rfl, HT5⟩ | (trace_state; fail)
      case measure => simp [intOf]; omega
    · obtain rfl : i = 256 := by omega
      have eh : HL.take 256 = HL := List.take_of_length_le (by rw [Hlh.out]; exact Nat.le_refl _)
      have eb : BL.take 256 = BL := List.take_of_length_le (by rw [Hlb.out]; exact Nat.le_refl _)
      have hT := HT.out
      rw [eh, eb] at hT
      obtain ⟨g1, rfl, hg1, hp1⟩ := hT.h.preI (by rw [Hlh.out]; omega)
      obtain ⟨g2, rfl, hg2, hp2⟩ := hT.b.preI (by rw [Hlb.out]; omega)
      have R := HP.out g1 ch g2 cb wr (Hb0.out.trans (hT.bel.mono Hb0.out.size)) hp1 hp2 (fun e => hT.ne g1 rfl (by rw [e]; rfl)) (by omega) (by omega)
      clear hp1 hp2
      clear HP HT hT eh eb
      go_wp2
      exact R
/-! ### Land -/
def landH (S : Nat) (cx cz : Int) (i : Nat) : List Int := mapH S (cx + (i : Int) % 3 - 1) (cz + (i : Int) / 3 - 1)
def landB (S : Nat) (cx cz : Int) (i : Nat) : List Int := mapB S (cx + (i : Int) % 3 - 1) (cz + (i : Int) / 3 - 1)
def groundH (S : Nat) (cx cz : Int) : List (List Int) := (List.range 9).map (landH S cx cz)
def groundB (S : Nat) (cx cz : Int) : List (List Int) := (List.range 9).map (landB S cx cz)
theorem range9_get (f : Nat → List Int) (i : Nat) (hi : i < 9) : ((List.range 9).map f).getD i [] = f i := by
  rw [List.getD_eq_getElem?_getD, List.getElem?_map, List.getElem?_range hi]
  rfl
theorem groundH_ok (S : Nat) (cx cz : Int) : okG 128 (groundH S cx cz) := ⟨by simp [groundH], fun i hi => by
  unfold groundH
  rw [range9_get _ i hi]
  unfold landH
  refine ⟨mapH_len _ _ _, fun k hk => ?_⟩
  have h1 : k < (mapH S (cx + (i : Int) % 3 - 1) (cz + (i : Int) / 3 - 1)).length := by rw [mapH_len]; exact hk
  rw [List.getD_eq_getElem?_getD, List.getElem?_eq_getElem h1, Option.getD_some, mapH_at]
  have := hOf_bd S ((cx + (i : Int) % 3 - 1) * 16 + (k : Int) % 16) ((cz + (i : Int) / 3 - 1) * 16 + (k : Int) / 16)
  omega⟩
theorem groundB_ok (S : Nat) (cx cz : Int) : okG 4 (groundB S cx cz) := ⟨by simp [groundB], fun i hi => by
  unfold groundB
  rw [range9_get _ i hi]
  unfold landB
  refine ⟨mapB_len _ _ _, fun k hk => ?_⟩
  have h1 : k < (mapB S (cx + (i : Int) % 3 - 1) (cz + (i : Int) / 3 - 1)).length := by rw [mapB_len]; exact hk
  rw [List.getD_eq_getElem?_getD, List.getElem?_eq_getElem h1, Option.getD_some, mapB_at]
  have := bandOf_bd S ((cx + (i : Int) % 3 - 1) * 16 + (k : Int) % 16) ((cz + (i : Int) / 3 - 1) * 16 + (k : Int) / 16)
  omega⟩
/-- What Land answers: two times nine lists, all apart. -/
def LandSay (hs bs : List (List Int)) (w : World) (e : Ending) (w' : World) : Prop :=
  Below w.heap.size w w' ∧ ∃ b cp g c b' cp' g' c', e = .returned (.tuple #[.slice (some ⟨b, 0, none⟩) 9 cp, .slice (some ⟨b', 0, none⟩) 9 cp']) ∧ L9 w' b g c hs ∧ L9 w' b' g' c' bs ∧ Apart9 g ∧ Apart9 g' ∧ (∀ i j, i < 9 → j < 9 → g i ≠ g' j) ∧ ∀ i, i < 9 → w.heap.size ≤ g i ∧ w.heap.size ≤ g' i
theorem land_half {w0 w3 : World} {fh fb : Nat → List Int} {nh nb : Nat} {ah ab : Option Addr} {ch cb : Nat} {gh gb : List (Nat × Nat)} {g2 : Nat} {xs : List Int} (c2 : Nat) (h : LandI w0 fh fb nh nb ah ch gh ab cb gb w3) (hp : PreI w3 g2 xs) :
    Hid (LandI w0 fb fh nb nh ab cb gb ah ch gh (w3.alloc (.cells #[slI (g2, c2)] 44))) ∧ Hid (PreI (w3.alloc (.cells #[slI (g2, c2)] 44)) g2 xs) :=
  ⟨(h.on ((Below.refl _ _).alloc (Nat.le_refl _) _)).swap, hp.below ((Below.refl _ _).alloc (Nat.le_refl _) _) hp.lt⟩
theorem land_new {gh gb : List (Nat × Nat)} {g1 c1 g2 : Nat} (h : ∀ x ∈ gh ++ gb, x.1 ≠ g2) (hne : g1 ≠ g2) : ∀ x ∈ gb ++ (gh ++ [(g1, c1)]), x.1 ≠ g2 := fun x hx e => by
  rcases List.mem_append.1 hx with hx | hx
  · exact h x (List.mem_append_right _ hx) e
  · rcases List.mem_append.1 hx with hx | hx
    · exact h x (List.mem_append_left _ hx) e
    · rw [List.mem_singleton.1 hx] at e
      exact hne e
set_option maxRecDepth 100000 in
set_option maxHeartbeats 2000000 in
theorem land_c (S : Nat) (cx cz : Int) (p : Option Addr) (n cl : Nat) (l : List Spot) (w : World) (hS : S < 18446744073709551616) (hcx : Far 1073741824 cx) (hcz : Far 1073741824 cz) (hl : SpotsAt w w.heap.size p n l) (hn : n ≤ 9223372036854775807) :
    Calls Tryz.prog 8 #[.int .u64 S, .agg #[.int .i64 cx, .int .i64 cz], .slice p n cl] w (LandSay (chg 128 (·.h) (groundH S cx cz) l (min n 3000)) (chg 4 (·.b) (groundB S cx cz) l (min n 3000)) w) := by
  obtain ⟨Post, hPost⟩ : ∃ Post : Ending → World → Prop, Post = LandSay (chg 128 (·.h) (groundH S cx cz) l (min n 3000)) (chg 4 (·.b) (groundB S cx cz) l (min n 3000)) w := ⟨_, rfl⟩
  rw [← hPost]
  have HP : Hid (∀ e w', LandSay (chg 128 (·.h) (groundH S cx cz) l (min n 3000)) (chg 4 (·.b) (groundB S cx cz) l (min n 3000)) w e w' → Post e w') := fun e w' h => by rw [hPost]; exact h
  clear hPost
  obtain ⟨cx0, cx1⟩ := hcx
  obtain ⟨cz0, cz1⟩ := hcz
  have Hb0 : Hid (Below w.heap.size w (w.alloc (.cells #[.int .i64 cx, .int .i64 cz] 24))) := (Below.refl _ _).alloc (Nat.le_refl _) _
  have HX0 : Hid ((w.alloc (.cells #[.int .i64 cx, .int .i64 cz] 24)).heap[w.heap.size]? = some (.cells #[.int .i64 cx, .int .i64 cz] 24 (0, 0))) := heap_alloc_new w (.cells #[.int .i64 cx, .int .i64 cz] 24)
  have Hsz : Hid ((w.alloc (.cells #[.int .i64 cx, .int .i64 cz] 24)).heap.size = w.heap.size + 1) := by show _ = _; simp
  have HL : Hid (SpotsAt (w.alloc (.cells #[.int .i64 cx, .int .i64 cz] 24)) (w.alloc (.cells #[.int .i64 cx, .int .i64 cz] 24)).heap.size p n l) := (hl.on Hb0.out).up (by rw [Hsz.out]; omega)
  clear hl
  go_enter Tryz.func8, Tryz.ntmps8
  go_wp2
  generalize w.alloc (.cells #[.int .i64 cx, .int .i64 cz] 24) = w0 at *
  go_loopw [8, 9, 10] (fun vh vb vi wr => ∃ (i : Nat) (ah : Option Addr) (ch : Nat) (gh : List (Nat × Nat)) (ab : Option Addr) (cb : Nat) (gb : List (Nat × Nat)), vi = .int .i64 (i : Int) ∧ vh = .slice ah i ch ∧ vb = .slice ab i cb ∧ i ≤ 9 ∧ Hid (LandI w0 (landH S cx cz) (landB S cx cz) i i ah ch gh ab cb gb wr)) (fun _ _ vi _ => 9 - (intOf vi).toNat)
  case atStart => exact ⟨0, none, 0, [], none, 0, [], rfl, rfl, rfl, by omega, LandI.init⟩
  case round =>
    obtain ⟨i, ah, ch, gh, ab, cb, gb, rfl, rfl, rfl, hi, HM⟩ := hrel
    by_cases hlt : i < 9
    case neg =>
      have hge : ¬ (i : Int) < 9 := by omega
      obtain rfl : i = 9 := by omega
      obtain ⟨b, rfl, hL, hA, hlo⟩ := HM.out.nine (fun _ _ => mapH_len _ _ _)
      obtain ⟨b', rfl, hL', hA', hlo'⟩ := HM.out.swap.nine (fun _ _ => mapB_len _ _ _)
      have hap := HM.out.apart
      have hch := changed_c b ch _ _ _ b' cb _ _ _ w0.heap.size p n cl l wr hL hL' hA hA' hap (fun i hi => ⟨hlo i hi, hlo' i hi⟩) (HL.out.on HM.out.bel) hn
      have Hbel : Hid (Below w0.heap.size w0 wr) := HM.out.bel
      have Hap : Hid (Apart9 (fun i => (gh.getD i (0, 0)).1) ∧ Apart9 (fun i => (gb.getD i (0, 0)).1) ∧ (∀ i j, i < 9 → j < 9 → (gh.getD i (0, 0)).1 ≠ (gb.getD j (0, 0)).1) ∧ ∀ i, i < 9 → w0.heap.size ≤ (gh.getD i (0, 0)).1 ∧ w0.heap.size ≤ (gb.getD i (0, 0)).1) := ⟨hA, hA', hap, fun i hi => ⟨hlo i hi, hlo' i hi⟩⟩
      clear hL hL' hA hA' hlo hlo' hap HM
      go_wp2_with fail
      refine hch.mono ?_
      clear hch
      rintro _ w1 ⟨rfl, hH1, hB1, hb1⟩
      have R := HP.out (.returned (.tuple #[.slice (some ⟨b, 0, none⟩) 9 ch, .slice (some ⟨b', 0, none⟩) 9 cb])) w1 ⟨Hb0.out.trans ((Hbel.out.trans hb1).mono (by have := Hsz.out; omega)), b, ch, _, _, b', cb, _, _, rfl, hH1, hB1, Hap.out.1, Hap.out.2.1, Hap.out.2.2.1, fun i hi => by have := Hap.out.2.2.2 i hi; have := Hsz.out; omega⟩
      clear hH1 hB1 hb1 HP
      go_wp2
      exact R
    have hlt' : (i : Int) < 9 := by omega
    have t1 : Int.tmod (i : Int) 3 = (i : Int) % 3 := Int.tmod_eq_emod_of_nonneg (by omega)
    have t2 : Int.tdiv (i : Int) 3 = (i : Int) / 3 := Int.tdiv_eq_ediv_of_nonneg (by omega)
    have r1 : 0 ≤ (i : Int) % 3 ∧ (i : Int) % 3 ≤ 2 := by omega
    have r2 : 0 ≤ (i : Int) / 3 ∧ (i : Int) / 3 ≤ 2 := by omega
    have Hf : Hid (landH S cx cz i = mapH S (cx + (i : Int) % 3 - 1) (cz + (i : Int) / 3 - 1) ∧ landB S cx cz i = mapB S (cx + (i : Int) % 3 - 1) (cz + (i : Int) / 3 - 1)) := ⟨rfl, rfl⟩
    generalize (i : Int) % 3 = R3 at *
    generalize (i : Int) / 3 = Q3 at *
    obtain ⟨r10, r11⟩ := r1
    obtain ⟨r20, r21⟩ := r2
    have hX := (HM.out.bel.block w.heap.size (by have := Hsz.out; omega)).trans HX0.out
    have k0 : wr.cell? ⟨w.heap.size, 0, none⟩ = some (.int .i64 cx) := (cell_of_row wr _ 0 _ 24 (0, 0) hX).trans rfl
    have k1 : wr.cell? ⟨w.heap.size, 1, none⟩ = some (.int .i64 cz) := (cell_of_row wr _ 1 _ 24 (0, 0) hX).trans rfl
    clear hX
    have hmap := rmap2_c S (cx + R3 - 1) (cz + Q3 - 1) wr hS (by unfold Far; omega) (by unfold Far; omega)
    go_wp2_with fail
    refine hmap.mono ?_
    clear hmap
    rintro _ w1 ⟨hb1, g1, c1, g2, c2, rfl, hp1, hp2, hne, hl1, hl2⟩
    rw [← Hf.out.1] at hp1
    rw [← Hf.out.2] at hp2
    have hM1 := HM.out.on hb1
    have Hnew : Hid ((∀ x ∈ gh ++ gb, x.1 ≠ g1) ∧ (∀ x ∈ gh ++ gb, x.1 ≠ g2) ∧ g1 ≠ g2 ∧ w0.heap.size ≤ g1 ∧ w0.heap.size ≤ g2) := ⟨fun x hx e => by have := HM.out.lt x hx; omega, fun x hx e => by have := HM.out.lt x hx; omega, hne, Nat.le_trans HM.out.bel.size hl1, Nat.le_trans HM.out.bel.size hl2⟩
    have hba : Below w1.heap.size w1 (w1.alloc (.cells #[slI (g1, c1)] 44)) := (Below.refl _ _).alloc (Nat.le_refl _) _
    have HM2 : Hid (LandI w0 (landH S cx cz) (landB S cx cz) i i ah ch gh ab cb gb (w1.alloc (.cells #[slI (g1, c1)] 44))) := hM1.on hba
    have Hp : Hid (PreI (w1.alloc (.cells #[slI (g1, c1)] 44)) g1 (landH S cx cz i) ∧ PreI (w1.alloc (.cells #[slI (g1, c1)] 44)) g2 (landB S cx cz i)) := ⟨hp1.below hba hp1.lt, hp2.below hba hp2.lt⟩
    clear hb1 hp1 hp2 hne hl1 hl2 hM1 hba HM k0 k1 Hf
    go_wp2_with (first
      | (at_builtin; refine wpList_append_row rfl _ _ rfl w0.heap.size ah i ch (gh.map slI) rfl HM2.out.oh ⟨w1.heap.size, 0, none⟩ (g1, c1) rfl (cell_new _ _ _) (by omega) HM2.out.bel.size ?_; intro a3 c3 w3 hO3 hgr3 hat3; have HM3 : Hid (LandI w0 (landH S cx cz) (landB S cx cz) (i + 1) i a3 c3 (gh ++ [(g1, c1)]) ab cb gb w3) := HM2.out.add Hp.out.1 Hnew.out.2.2.2.1 Hnew.out.1 hO3 hgr3 hat3; have Hp3 : Hid (PreI w3 g2 (landB S cx cz i)) := Hp.out.2.row HM2.out.oh hgr3; clear hO3 hgr3 hat3 HM2 Hp; obtain ⟨HM4, Hp4⟩ := land_half c2 HM3.out Hp3.out; clear HM3 Hp3)
      | (at_builtin; refine wpList_append_row rfl _ _ rfl w0.heap.size ab i cb (gb.map slI) rfl HM4.out.oh ⟨w3.heap.size, 0, none⟩ (g2, c2) rfl (cell_new _ _ _) (by omega) HM4.out.bel.size ?_; intro a5 c5 w5 hO5 hgr5 hat5; have HM5 : Hid (LandI w0 (landH S cx cz) (landB S cx cz) (i + 1) (i + 1) a3 c3 (gh ++ [(g1, c1)]) a5 c5 (gb ++ [(g2, c2)]) w5) := (HM4.out.add Hp4.out Hnew.out.2.2.2.2 (land_new Hnew.out.2.1 Hnew.out.2.2.1) hO5 hgr5 hat5).swap; clear hO5 hgr5 hat5 HM4))
    exact ⟨⟨i + 1, a3, c3, _, a5, c5, _, by simp, rfl, rfl, by omega, HM5⟩, by simp [intOf]; omega⟩
end
end Go.Proofs.YtbdjgaagafnfaaaGreat
