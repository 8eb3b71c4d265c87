/-
  Bytes at the beginning of a block; a copy by an append. Painting, plainly.
-/
import Derived.Test.YtbcadklodjdokaaWof
import Derived.Test.YtbcadklodjdokaaCSame
import Derived.Laws.AppendOwnNone
set_option maxRecDepth 20000
namespace Go.Proofs.Ytbcadklodjdokaa
open C Go.RowKit

/-! ### bytes at the beginning of a block -/
def Pre (w : World) (b : Nat) (t : TypeId) (cs : List Int) : Prop := ∃ cur, w.heap[b]? = some (.cells cur t (0, 0)) ∧ cs.length ≤ cur.size ∧ ∀ k, k < cs.length → cur[k]? = some (.int .u8 (cs.getD k 0))
theorem Pre.lt {w : World} {b : Nat} {t : TypeId} {cs : List Int} (h : Pre w b t cs) : b < w.heap.size := by
  obtain ⟨cur, hc, _⟩ := h
  exact (Array.getElem?_eq_some_iff.1 hc).1
theorem Pre.cell {w : World} {b : Nat} {t : TypeId} {cs : List Int} (h : Pre w b t cs) {k : Nat} (hk : k < cs.length) : w.cell? ⟨b, k, none⟩ = some (.int .u8 (cs.getD k 0)) := by
  obtain ⟨cur, hc, _, he⟩ := h
  rw [cell_of_row w b k cur t (0, 0) hc]
  exact he k hk
theorem Pre.free {w : World} {b : Nat} {t : TypeId} {cs : List Int} (h : Pre w b t cs) (k : Nat) : w.frozen? ⟨b, k, none⟩ = false := by
  obtain ⟨cur, hc, _⟩ := h
  exact frozen_of_row w b k cur t hc
theorem Pre.set {w : World} {b : Nat} {t : TypeId} {cs : List Int} (h : Pre w b t cs) (k : Nat) (x : Int) : Pre (w.setCell ⟨b, k, none⟩ (.int .u8 x)) b t (cs.set k x) := by
  obtain ⟨cur, hc, hl, he⟩ := h
  refine ⟨_, heap_setCell_same w b k _ t _ hc, by rw [List.length_set, Array.size_setIfInBounds]; exact hl, fun j hj => ?_⟩
  rw [List.length_set] at hj
  by_cases e : k = j
  · subst e
    rw [Array.getElem?_setIfInBounds_self_of_lt (by omega), C.getD_set_self cs k x hj]
  · rw [Array.getElem?_setIfInBounds_ne e, C.getD_set_ne cs x e]
    exact he j hj
theorem Pre.below {w w' : World} {b n : Nat} {t : TypeId} {cs : List Int} (h : Pre w b t cs) (hb : Below n w w') (hn : b < n) : Pre w' b t cs := by
  obtain ⟨cur, hc, hr⟩ := h
  exact ⟨cur, (hb.block b hn).trans hc, hr⟩
theorem Pre.other {w : World} {b b' k : Nat} {t : TypeId} {cs : List Int} {v : Value} (h : Pre w b t cs) (hb : b ≠ b') : Pre (w.setCell ⟨b', k, none⟩ v) b t cs := by
  obtain ⟨cur, hc, hr⟩ := h
  exact ⟨cur, (Below.heap_setCell w ⟨b', k, none⟩ v b hb).trans hc, hr⟩
theorem Pre.src {w : World} {g : Nat} {t : TypeId} {cs : List Int} (h : Pre w g t cs) (hk : Kinds cs) : Src w (some ⟨g, 0, none⟩) cs.length cs :=
  ⟨rfl, fun k hk' => ⟨g, 0, rfl, h.lt, by rw [Nat.zero_add]; exact h.cell hk'⟩, hk.bytes⟩
theorem Pre.conv {w : World} {g c : Nat} {t : TypeId} {cs : List Int} (h : Pre w g t cs) (hl : cs.length = 32768) (hk : Kinds cs) : (convert 33 9 (.slice (some ⟨g, 0, none⟩) 32768 c)).run Try.prog w = .ok (.string (strOfNums cs)) w := by
  have := conv_c (cap := c) (h.src hk)
  rwa [hl] at this
theorem Blk.pre {w : World} {g : Nat} {t : TypeId} {cs : List Int} (h : Blk w g t cs) : Pre w g t cs :=
  ⟨_, h, by rw [vals_size]; exact Nat.le_refl _, fun k hk => by simp [vals, hk]⟩
/-- A copy of bytes by an append to none. -/
theorem wpList_append_copy {w : World} {ops : Array Oper} {rest : List Oper} {o : Oper} {a : Act} {Q : Exit → Act → World → Prop} (hgd : o.guard = none) (s x : Operand)
    (ho : o.op = .call { callee := .builtin .append, args := #[s, x], argTypes := #[33, 33] }) (g c : Nat) (cs : List Int) (hl : cs.length = 32768) (hP : Pre w g 5 cs) (hs : a.eval s = .slice none 0 0) (hx : a.eval x = .slice (some ⟨g, 0, none⟩) 32768 c)
    (h : ∀ g' c' w', Pre w' g' 5 cs → Below w.heap.size w w' → w.heap.size ≤ g' → wpList Try.prog ops Q rest (a.put o.dst (.slice (some ⟨g', 0, none⟩) 32768 c')) w') : wpList Try.prog ops Q (o :: rest) a w := by
  obtain ⟨i, hi, hz0, hz1, hz2⟩ := info_parts C.info5
  refine wpList_append_own_at w hgd s x 33 ho w.heap.size 5 i _ 1 1 Try.underlying33 hi hz0 hz1 hz2 rfl (by decide) (.slice none 0 0) 0 [] hs (World.ownsRow_nil _ _ _ _) ⟨g, 0, none⟩ 32768 c (cs.map (Value.int .u8)) hx (by simp [hl]) (fun j u hj => ?_) (by simp [Value.oneCell']) (by simp [maxLen]) (by omega) (Nat.le_refl _) ?_
  · rw [List.getElem?_map] at hj
    obtain ⟨v, hv, rfl⟩ := Option.map_eq_some_iff.1 hj
    have hjl := (List.getElem?_eq_some_iff.1 hv).1
    rw [show (Addr.add ⟨g, 0, none⟩ j) = ⟨g, j, none⟩ by rw [Addr.add_mid, Nat.zero_add]]
    rw [hP.cell hjl, List.getD_eq_getElem?_getD, hv]
    rfl
  · intro v' w' h1 h2 _ h4
    rcases h1.2 with ⟨hv, hn⟩ | ⟨g', cap, cur, hv, hlo, hh, hk, _, hsz, ht⟩
    · omega
    · subst hv
      refine h g' cap w' ⟨cur, hh, ?_, fun k hk' => ?_⟩ ⟨h2.os, h2.tape, h2.output, h2.size, fun k hk => h2.block k hk (by simp [Value.ownBlock])⟩ hlo
      · rw [hl]; omega
      · have := congrArg (fun l => l[k]?) ht
        simp only [List.nil_append, List.getElem?_map, List.getElem?_take] at this
        rw [if_pos (by omega)] at this
        rw [← Array.getElem?_toList, this, List.getD_eq_getElem?_getD, List.getElem?_eq_getElem hk']
        rfl

/-! ### painting -/
section
variable (cx cz mx my mz : Int)
def jx (j : Nat) : Int := cx * 16 + (j : Int) % 16
def jz (j : Nat) : Int := cz * 16 + (j : Int) / 16 % 16
def jy (j : Nat) : Int := (j : Int) / 256
/-- The number of a cell about a middle. -/
def kOf (j : Nat) : Int := (jy j - my + 2) * 25 + (jz cz j - mz + 2) * 5 + (jx cx j - mx + 2)
variable (mr mo : Int) (bs ds : List Int)
abbrev near2 (j : Nat) : Prop := awayN mx my mz (jx cx j) (jy j) (jz cz j) ≤ mr
/-- Painted up to number K of the cells about a middle. -/
def Mid (K : Nat) (zs : List Int) : Prop := zs.length = 32768 ∧ ∀ j, j < 32768 → zs.getD j 0 = if bs.getD j 0 = 1 ∧ near2 cx cz mx my mz mr j ∧ kOf cx cz mx my mz j < K then mo else ds.getD j 0
variable {cx cz mx my mz mr mo bs ds}
theorem Mid.init (h : ds.length = 32768) (hr : mr ≤ 2) : Mid cx cz mx my mz mr mo bs ds 0 ds := ⟨h, fun j hj => by
  rw [if_neg]
  rintro ⟨_, h1, h2⟩
  have := awayN_le h1
  unfold kOf at h2
  omega⟩
theorem k_of {j K : Nat} (hr : mr ≤ 2) (h1 : near2 cx cz mx my mz mr j) (h2 : kOf cx cz mx my mz j = K) : jx cx j = mx + (K : Int) % 5 - 2 ∧ jy j = my + (K : Int) / 25 - 2 ∧ jz cz j = mz + (K : Int) / 5 % 5 - 2 := by
  have := awayN_le h1
  unfold kOf at h2
  generalize jx cx j = a at *
  generalize jy j = b at *
  generalize jz cz j = c at *
  omega
theorem k_lt {j : Nat} (hr : mr ≤ 2) (h1 : near2 cx cz mx my mz mr j) : kOf cx cz mx my mz j < 125 := by
  have := awayN_le h1
  unfold kOf
  generalize jx cx j = a at *
  generalize jy j = b at *
  generalize jz cz j = c at *
  omega
theorem j_index {j : Nat} (hj : j < 32768) {x y z : Int} (hx : jx cx j = x) (hy : jy j = y) (hz : jz cz j = z) : indexN x y z = j ∧ x / 16 = cx ∧ z / 16 = cz := by
  unfold jx at hx
  unfold jy at hy
  unfold jz at hz
  refine ⟨?_, ?_, ?_⟩
  · unfold indexN
    rw [if_pos (by omega)]
    omega
  · omega
  · omega
theorem index_j {x y z : Int} (h0 : 0 ≤ indexN x y z) (hx : x / 16 = cx) (hz : z / 16 = cz) : ∃ j : Nat, j < 32768 ∧ indexN x y z = j ∧ jx cx j = x ∧ jy j = y ∧ jz cz j = z := by
  unfold indexN at h0 ⊢
  split at h0
  · rename_i hy
    rw [if_pos hy]
    refine ⟨(y * 256 + z % 16 * 16 + x % 16).toNat, by omega, by omega, ?_, ?_, ?_⟩
    · unfold jx; omega
    · unfold jy; omega
    · unfold jz; omega
  · omega
/-- The cell with number K is painted. -/
theorem Mid.yes {K : Nat} {zs : List Int} (h : Mid cx cz mx my mz mr mo bs ds K zs) (hr : mr ≤ 2) {j : Nat} (hj : j < 32768) (hb : bs.getD j 0 = 1) (hn : awayN mx my mz (mx + (K : Int) % 5 - 2) (my + (K : Int) / 25 - 2) (mz + (K : Int) / 5 % 5 - 2) ≤ mr)
    (hx : jx cx j = mx + (K : Int) % 5 - 2) (hy : jy j = my + (K : Int) / 25 - 2) (hz : jz cz j = mz + (K : Int) / 5 % 5 - 2) (_hK : K < 125) : Mid cx cz mx my mz mr mo bs ds (K + 1) (zs.set j mo) := by
  refine ⟨by rw [List.length_set]; exact h.1, fun i hi => ?_⟩
  by_cases e : j = i
  · subst e
    rw [C.getD_set_self zs j mo (by rw [h.1]; exact hj), if_pos]
    refine ⟨hb, ?_, ?_⟩
    · unfold near2; rw [hx, hy, hz]; exact hn
    · unfold kOf; rw [hx, hy, hz]; omega
  · rw [C.getD_set_ne zs mo e, h.2 i hi]
    by_cases hc : bs.getD i 0 = 1 ∧ near2 cx cz mx my mz mr i ∧ kOf cx cz mx my mz i < K
    · rw [if_pos hc, if_pos ⟨hc.1, hc.2.1, by have := hc.2.2; omega⟩]
    · rw [if_neg hc, if_neg]
      rintro ⟨h1, h2, h3⟩
      by_cases e2 : kOf cx cz mx my mz i = K
      · obtain ⟨a, b, c⟩ := k_of hr h2 e2
        have h4 := (j_index hi a b c).1
        have h5 := (j_index hj hx hy hz).1
        exact e (by omega)
      · exact hc ⟨h1, h2, by omega⟩
theorem Mid.no {K : Nat} {zs : List Int} (h : Mid cx cz mx my mz mr mo bs ds K zs) (hr : mr ≤ 2)
    (hn : ∀ j, j < 32768 → jx cx j = mx + (K : Int) % 5 - 2 → jy j = my + (K : Int) / 25 - 2 → jz cz j = mz + (K : Int) / 5 % 5 - 2 → near2 cx cz mx my mz mr j → bs.getD j 0 ≠ 1) : Mid cx cz mx my mz mr mo bs ds (K + 1) zs := by
  refine ⟨h.1, fun i hi => ?_⟩
  rw [h.2 i hi]
  by_cases hc : bs.getD i 0 = 1 ∧ near2 cx cz mx my mz mr i ∧ kOf cx cz mx my mz i < K
  · rw [if_pos hc, if_pos ⟨hc.1, hc.2.1, by have := hc.2.2; omega⟩]
  · rw [if_neg hc, if_neg]
    rintro ⟨h1, h2, h3⟩
    by_cases e2 : kOf cx cz mx my mz i = K
    · obtain ⟨a, b, c⟩ := k_of hr h2 e2
      exact hn i hi a b c h2 h1
    · exact hc ⟨h1, h2, by omega⟩
end
/-- A chunk painted by the origins from number I on. -/
def Painted (S : Nat) (cx cz : Int) (bs : List Int) (I : Nat) (zs : List Int) : Prop := zs.length = 32768 ∧ ∀ j, j < 32768 → zs.getD j 0 = if bs.getD j 0 = 1 then paintN S cx cz (jx cx j) (jy j) (jz cz j) (bs.getD j 0) I else bs.getD j 0
theorem Painted.init (S : Nat) (cx cz : Int) {bs : List Int} (h : bs.length = 32768) : Painted S cx cz bs 288 bs := ⟨h, fun j _ => by
  split
  · rfl
  · rfl⟩
theorem paint_step {S : Nat} {cx cz x y z d : Int} {I : Nat} (hI : I < 288) : paintN S cx cz x y z d I = if c288 S cx cz x y z I = true then o288 S cx cz I else paintN S cx cz x y z d (I + 1) := by
  unfold paintN
  obtain ⟨k, hk⟩ : ∃ k, 288 - I = k + 1 := ⟨287 - I, by omega⟩
  rw [hk, show 288 - (I + 1) = k by omega]
  rfl
/-- One origin more. -/
theorem Painted.step {S : Nat} {cx cz : Int} {bs zs zs' : List Int} {I : Nat} {mx my mz mr mo : Int} (h : Painted S cx cz bs (I + 1) zs) (hI : I < 288) (hr : mr ≤ 2) (hm : Mid cx cz mx my mz mr mo bs zs 125 zs')
    (hc : ∀ x y z, c288 S cx cz x y z I = decide (awayN mx my mz x y z ≤ mr)) (ho : o288 S cx cz I = mo) : Painted S cx cz bs I zs' := by
  refine ⟨hm.1, fun j hj => ?_⟩
  rw [hm.2 j hj, h.2 j hj, paint_step hI, hc, ho]
  by_cases hb : bs.getD j 0 = 1
  · by_cases hn : near2 cx cz mx my mz mr j
    · rw [if_pos ⟨hb, hn, k_lt hr hn⟩, if_pos hb, if_pos (decide_eq_true hn)]
    · rw [if_neg (fun h => hn h.2.1), if_pos hb, if_pos hb, if_neg (fun h => hn (of_decide_eq_true h))]
  · rw [if_neg (fun h => hb h.1), if_neg hb, if_neg hb]
theorem Painted.skip {S : Nat} {cx cz : Int} {bs zs : List Int} {I : Nat} (h : Painted S cx cz bs (I + 1) zs) (hI : I < 288) (hc : ∀ x y z, c288 S cx cz x y z I = false) : Painted S cx cz bs I zs := by
  refine ⟨h.1, fun j hj => ?_⟩
  rw [h.2 j hj, paint_step hI, hc]
  rfl
theorem Painted.done {S : Nat} {cx cz : Int} {bs zs : List Int} (h : Painted S cx cz bs 0 zs) : zs = applyN S cx cz bs := by
  refine C.getD_ext (by rw [h.1, applyN_len]) fun j hj => ?_
  rw [h.1] at hj
  rw [h.2 j hj, applyN_at S cx cz bs j hj]
  unfold applyAt oreAt
  have hp := paint_of (S := S) (cx := cx) (cz := cz) (x := jx cx j) (y := jy j) (z := jz cz j) (d := bs.getD j 0) (by unfold jx; omega) (by unfold jy; omega) (by unfold jz; omega)
  rw [hp]
  show (if bs.getD j 0 = 1 then (if ofN S (jx cx j) (jy j) (jz cz j) = 0 then bs.getD j 0 else ofN S (jx cx j) (jy j) (jz cz j)) else bs.getD j 0) = if bs.getD j 0 = 1 ∧ ofN S (jx cx j) (jy j) (jz cz j) ≠ 0 then ofN S (jx cx j) (jy j) (jz cz j) else bs.getD j 0
  generalize ofN S (jx cx j) (jy j) (jz cz j) = o
  by_cases hb : bs.getD j 0 = 1
  · by_cases h0 : o = 0
    · rw [if_pos hb, if_pos h0, if_neg (fun h => h.2 h0)]
    · rw [if_pos hb, if_neg h0, if_pos ⟨hb, h0⟩]
  · rw [if_neg hb, if_neg (fun h => hb h.1)]
end Go.Proofs.Ytbcadklodjdokaa