/-
  The document's Flood: its fields' sources, two rows that grow side by side.
-/
import Derived.Test.YtjeapaojbkicmaaDoorLspr
import Derived.Test.YtjeapaojbkicmaaDoorLnine
import Derived.Test.YtjeapaojbkicmaaDoorLskyw
set_option maxRecDepth 20000
namespace Go.Proofs.YtjeapaojbkicmaaDoor
open C Go.RowKit L

theorem nb_at {css : List (List Int)} (h : ∀ j, j < 9 → (css.getD j []).length = 32768) (i : Nat) : (nb css 18432).getD i 0 = kAt css i := by
  rcases Nat.lt_or_ge i 294912 with hi | hi
  · unfold nb
    rw [List.getD_eq_getElem?_getD, List.getElem?_map, List.getElem?_range (by omega)]
    rfl
  · rw [List.getD_eq_getElem?_getD, List.getElem?_eq_none (by rw [nb_len]; omega)]
    unfold kAt
    rw [List.getD_eq_getElem?_getD (l := css.getD _ []), List.getElem?_eq_none (by rw [h _ (by omega)]; omega)]
theorem nb_kinds {css : List (List Int)} (hk : ∀ j, j < 9 → Kinds (css.getD j [])) : Kinds (nb css 18432) := fun x hx => by
  unfold nb at hx
  obtain ⟨i, hi, rfl⟩ := List.mem_map.1 hx
  unfold kAt
  exact (hk _ (by omega)).at _
theorem sky_src {K : Nat → Int} {ls : List Int} (h : Sk48 K 2304 128 ls) (i : Nat) : ls.getD i 0 = (skyN 48 48 128 K i : Int) := by
  rcases Nat.lt_or_ge i 294912 with hi | hi
  · have := h.done (i % 2304) (i / 2304) (by omega) (by omega) (by omega)
    rwa [show i / 2304 * 2304 + i % 2304 = i by omega] at this
  · rw [List.getD_eq_getElem?_getD, List.getElem?_eq_none (by rw [h.len]; exact hi)]
    unfold skyN
    rw [if_neg (by omega)]
    rfl
theorem lamp_src {K : Nat → Int} {ls : List Int} (h : Upto (fun j => (emitsK (K j) : Int)) 294912 294912 ls) (i : Nat) : ls.getD i 0 = (lampN 48 48 128 K i : Int) := by
  unfold lampN
  rcases Nat.lt_or_ge i 294912 with hi | hi
  · rw [h.told i hi, if_pos (by omega)]
  · rw [h.rest i hi, if_neg (by omega)]
    rfl
theorem lv_of {ls : List Int} {f : Nat → Nat} (h : ∀ i, ls.getD i 0 = (f i : Int)) (hf : ∀ i, f i ≤ 15) : Lv ls ∧ ∀ i, li ls i = f i :=
  ⟨fun i => by have := hf i; rw [h i]; omega, fun i => by unfold li; rw [h i]; simp⟩
theorem blk_pre {w : World} {g : Nat} {t : TypeId} {cs : List Int} (h : Blk w g t cs) : Pre w g t cs :=
  ⟨_, h, by rw [vals_size]; exact Nat.le_refl _, fun k hk => by simp [vals, hk]⟩
theorem Pre.grown {w w' : World} {b r : Nat} {t : TypeId} {cs : List Int} (h : Pre w b t cs) (hg : w.grownBy w' (some r)) (hne : b ≠ r) : Pre w' b t cs := by
  obtain ⟨cur, hc, hr⟩ := h
  exact ⟨cur, (hg.block b (Array.getElem?_eq_some_iff.1 hc).1 (fun e => hne (by cases e; rfl))).trans hc, hr⟩
theorem Fd.grown {w w' : World} {g r : Nat} {W D T : Int} {kv : Value} (h : Fd w g W D T kv) (hg : w.grownBy w' (some r)) (hne : g ≠ r) : Fd w' g W D T kv :=
  (hg.block g (Array.getElem?_eq_some_iff.1 h).1 (fun e => hne (by cases e; rfl))).trans h
theorem Pre.ne_fd {w : World} {b g : Nat} {cs : List Int} {W D T : Int} {kv : Value} (h : Pre w b 5 cs) (hf : Fd w g W D T kv) : b ≠ g := fun e => by
  subst e
  obtain ⟨cur, hc, _⟩ := h
  rw [show w.heap[b]? = _ from hf] at hc
  cases hc
/-- One more byte at the end of a row of one's own. -/
theorem wpList_append_byte {w : World} {ops : Array Oper} {rest : List Oper} {o : Oper} {a : Act} {Q : Exit → Act → World → Prop} (hgd : o.guard = none) (s x : Operand)
    (ho : o.op = .call { callee := .builtin .append, args := #[s, x], argTypes := #[28, 28] }) (B : Nat) (av : Option Addr) (n cv : Nat) (L : List Int) (hn : L.length = n) (hs : a.eval s = .slice av n cv) (hown : OwnB w B av cv L)
    (ad : Addr) (y : Int) (hx : a.eval x = .slice (some ad) 1 1) (hnews : ∀ j u, [Value.int .u8 y][j]? = some u → w.cell? (ad.add j) = some u) (hle : n ≤ 100000000) (hB : B ≤ w.heap.size)
    (h : ∀ a' c' w', Hid (OwnB w' B a' c' (L ++ [y])) → w.grownBy w' (Value.ownBlock (.slice av n cv)) → (Value.ownBlock (.slice a' (n + 1) c') = Value.ownBlock (.slice av n cv) ∨ Value.ownBlock (.slice a' (n + 1) c') = some w.heap.size) → wpList Tryd.prog ops Q rest (a.put o.dst (.slice a' (n + 1) c')) w') : wpList Tryd.prog ops Q (o :: rest) a w := by
  obtain ⟨i, hi, hz0, hz1, hz2⟩ := info_parts C.info5
  subst hn
  refine wpList_append_own_at w hgd s x 28 ho B 5 i _ 1 1 Tryd.underlying28 hi hz0 hz1 hz2 rfl (by decide) _ _ _ hs hown ad 1 1 [.int .u8 y] hx rfl hnews (by simp [Value.oneCell']) (by unfold maxLen; omega) (by omega) hB ?_
  intro v' w' h1 h2 _ h4
  have e : ∃ a' c', v' = .slice a' (L.length + 1) c' := by
    rcases h1.2 with ⟨hv, hn⟩ | ⟨g, cap, _, hv, _⟩
    · omega
    · exact ⟨_, _, hv⟩
  obtain ⟨a', c', rfl⟩ := e
  refine h a' c' w' ?_ h2 h4
  show OwnB _ _ _ _ _
  unfold OwnB bvs
  rw [List.length_append, List.map_append]
  exact h1
theorem ownB_block {w : World} {lo c n : Nat} {a : Option Addr} {xs : List Int} (h : OwnB w lo a c xs) (hn : xs.length = n) {g : Nat} (hg : Value.ownBlock (.slice a n c) = some g) : lo ≤ g ∧ g < w.heap.size := by
  subst hn
  rcases h.2 with ⟨e, _⟩ | ⟨g', cap, cur, hv, hb, hh, _⟩
  · rw [e] at hg; simp [Value.ownBlock] at hg
  · rw [hv] at hg
    obtain rfl : g' = g := by simpa [Value.ownBlock] using hg
    exact ⟨hb, (Array.getElem?_eq_some_iff.1 hh).1⟩
/-- Two rows side by side: one of them grows. -/
theorem own_step {w5 W W1 w9 : World} {a b a' : Option Addr} {ca cb c' n m : Nat} {xs ys : List Int} (hb : Below W.heap.size W W1) (hn : xs.length = n) (hm : ys.length = m) (oa : OwnB W w5.heap.size a ca xs) (ob : OwnB W w5.heap.size b cb ys)
    (ap : ∀ g, Value.ownBlock (.slice a n ca) = some g → Value.ownBlock (.slice b m cb) ≠ some g) (bel : Below w5.heap.size w5 W)
    (hg : W1.grownBy w9 (Value.ownBlock (.slice a n ca))) (hat : Value.ownBlock (.slice a' (n + 1) c') = Value.ownBlock (.slice a n ca) ∨ Value.ownBlock (.slice a' (n + 1) c') = some W1.heap.size) :
    OwnB w9 w5.heap.size b cb ys ∧ (∀ g, Value.ownBlock (.slice a' (n + 1) c') = some g → Value.ownBlock (.slice b m cb) ≠ some g) ∧ Below w5.heap.size w5 w9 := by
  have bel1 : Below w5.heap.size w5 W1 := bel.trans (hb.mono bel.size)
  refine ⟨ownsRow_apart (ownsRow_on ob hb) hg (fun g hg' e => ap g e (by rw [hm] at hg'; exact hg')), fun g h1 h2 => ?_, hg.os.trans bel1.os, hg.tape.trans bel1.tape, hg.output.trans bel1.output, Nat.le_trans bel1.size hg.size, fun j hj => ?_⟩
  · rcases hat with e | e
    · rw [e] at h1; exact ap g h1 h2
    · rw [e] at h1
      have := (ownB_block ob hm h2).2
      have := hb.size
      cases h1
      omega
  · refine (hg.block j (Nat.lt_of_lt_of_le hj bel1.size) (fun q => ?_)).trans (bel1.block j hj)
    have := (ownB_block oa hn q.symm).1
    omega
theorem cell_one_byte (W : World) (T : TypeId) (u : Value) : ∀ (j : Nat) (x : Value), [u][j]? = some x → (W.alloc (.cells #[u] T)).cell? (Addr.add ⟨W.heap.size, 0, none⟩ j) = some x := cell_one_int W T u
def rowF (f : Nat → Int) (i : Nat) : List Int := (List.range i).map f
theorem rowF_len (f : Nat → Int) (i : Nat) : (rowF f i).length = i := by simp [rowF]
theorem rowF_next (f : Nat → Int) (i : Nat) : rowF f (i + 1) = rowF f i ++ [f i] := by simp [rowF, List.range_succ]
/-- The first i of both rows. -/
structure Two (w5 : World) (fa fb : Nat → Int) (i : Nat) (a b : Option Addr) (ca cb : Nat) (W : World) : Prop where
  oa : OwnB W w5.heap.size a ca (rowF fa i)
  ob : OwnB W w5.heap.size b cb (rowF fb i)
  ap : ∀ g, Value.ownBlock (.slice a i ca) = some g → Value.ownBlock (.slice b i cb) ≠ some g
  bel : Below w5.heap.size w5 W
theorem Two.start (w5 : World) (fa fb : Nat → Int) : Two w5 fa fb 0 none none 0 0 w5 :=
  ⟨⟨by simp [rowF, bvs], .inl ⟨by simp [rowF], by simp [rowF]⟩⟩, ⟨by simp [rowF, bvs], .inl ⟨by simp [rowF], by simp [rowF]⟩⟩, fun g h => by simp [Value.ownBlock] at h, Below.refl _ _⟩
theorem told_light {s : L.Sys} {ls : List Int} (h : L.Told s (li ls)) (hl : Lv ls) : IsLight s (rowF (fun i => ls.getD (mid i) 0) 32768) := by
  refine ⟨rowF_len _ _, li ls, h, fun i hi => ?_⟩
  unfold rowF
  rw [List.getD_eq_getElem?_getD, List.getElem?_map, List.getElem?_range hi]
  show ls.getD (mid i) 0 = _
  have := (hl (mid i)).1
  unfold li
  omega
theorem spo_of {e : SpE} {s : L.Sys} {K : Nat → Int} {src : Nat → Nat} {hs : ∀ i, src i ≤ 15} (hN : e.N = 294912) (hS : s = fsys 48 48 128 K src hs (by omega) (by omega)) (hK : ∀ i, e.ks.getD i 0 = K i) (kl : e.ks.length = e.N) (kk : Kinds e.ks) (n1 : e.gl ≠ e.kb) (n2 : e.gl ≠ e.g) (b0 : e.gl < e.w0.heap.size) : SpO e s := by
  subst hS
  exact ⟨hN, by show 48 * 48 * 128 = _; omega, fun i => by rw [hK i]; rfl, fun i => by rw [hK i]; rfl, fun i j => Iff.rfl, kl, kk, n1, n2, b0⟩
end Go.Proofs.YtjeapaojbkicmaaDoor
