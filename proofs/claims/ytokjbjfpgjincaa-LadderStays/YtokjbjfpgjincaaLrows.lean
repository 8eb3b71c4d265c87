/-
  Rows of stages that one has made oneself; a ladder with one stage more.
-/
import Derived.Test.YtokjbjfpgjincaaLcloses
set_option maxRecDepth 20000
namespace Go.Proofs.Ytokjbjfpgjincaa
open Go.RowKit

def rgv (x : Rn) : Value := .slice x.a x.r.length x.c
def OwnG (w : World) (lo : Nat) (a : Option Addr) (c : Nat) (L : List Rn) : Prop := w.ownsRow lo 43 1 (.slice a L.length c) L.length (L.map rgv)
structure RnOk (w : World) (x : Rn) : Prop where
  rd : RdAt w x.a x.r
  nil : x.a = none → x.c = 0
  sz : x.r.length ≤ 8796093022208
theorem RnOk.on {w w' : World} {x : Rn} (h : RnOk w x) (hb : Below w.heap.size w w') : RnOk w' x := ⟨h.rd.on hb, h.nil, h.sz⟩
theorem RgAt.ok {w : World} {a : Option Addr} {L : List Rn} (h : RgAt w a L) : ∀ x ∈ L, RnOk w x := fun x hx => by
  obtain ⟨i, hi, rfl⟩ := List.mem_iff_getElem.1 hx
  obtain ⟨b, off, e, h1⟩ := h i hi
  exact ⟨h1.rd, h1.nil, h1.sz⟩
theorem OwnG.rg {w : World} {lo c : Nat} {a : Option Addr} {L : List Rn} (h : OwnG w lo a c L) (hok : ∀ x ∈ L, RnOk w x) : RgAt w a L := fun i hi => by
  unfold OwnG at h
  obtain ⟨g, rfl⟩ : ∃ g, a = some ⟨g, 0, none⟩ := by
    rcases h.2 with ⟨_, h0⟩ | ⟨g, cap, cur, hv, _⟩
    · omega
    · simp only [Value.slice.injEq] at hv
      exact ⟨g, hv.1⟩
  have H := hok L[i] (List.getElem_mem hi)
  refine ⟨g, 0, rfl, ?_, H.rd, H.nil, H.sz⟩
  rw [Nat.zero_add, ownsRow_cell h _ (by omega), List.getElem?_map, List.getElem?_eq_getElem hi]
  rfl
theorem info43 : (Try.prog.info? 43).map (fun i => (i.zero, i.size, i.bytes)) = some (some (.agg #[.slice none 0 0]), 1, 24) := by kernel_rfl
theorem rg_one (L : List Rn) : ∀ u ∈ L.map rgv, u.oneCell' = true := fun u hu => by
  obtain ⟨x, _, rfl⟩ := List.mem_map.1 hu
  rfl
/-- A copy of a ladder. -/
theorem wpList_copy_rg {w : World} {ops : Array Oper} {rest : List Oper} {o : Oper} {a : Act} {Q : Exit → Act → World → Prop} (hgd : o.guard = none) (x : Operand)
    (ho : o.op = .call { callee := .builtin .append, args := #[.const (.slice none 0 0), x], argTypes := #[22, 22] }) (sp : Option Addr) (m sc : Nat) (L : List Rn) (hm : L.length = m) (hx : a.eval x = .slice sp m sc) (hR : RgAt w sp L) (hnil : sp = none → m = 0 ∧ sc = 0) (hle : m * 24 ≤ 140737488351232)
    (h : ∀ a' c' w', Hid (OwnG w' w.heap.size a' c' L) → Below w.heap.size w w' → wpList Try.prog ops Q rest (a.put o.dst (.slice a' m c')) w') : wpList Try.prog ops Q (o :: rest) a w := by
  obtain ⟨i, hi, hz0, hz1, hz2⟩ := info_parts info43
  cases sp with
  | none =>
    obtain ⟨rfl, rfl⟩ := hnil rfl
    have hL : L = [] := List.eq_nil_of_length_eq_zero hm
    subst hL
    have hrun := run_append_owned_none (P := Try.prog) (w := w) 0 22 o.type 43 i 1 Try.underlying22 hi (.slice none 0 0) 0 [] (World.ownsRow_nil _ _ _ _)
    have hev : a.eval (.const (.slice none 0 0)) = .slice none 0 0 := rfl
    refine wpList_plain hgd fun _ hK => ?_
    unfold Oper.wp
    simp [execOp, ho, resolve, invoke, builtin, hx, hev, hrun, Result.andThen]
    exact hK _ _ (h none 0 w (World.ownsRow_nil _ _ _ _) (Below.refl _ _))
  | some ad =>
    refine wpList_append_own w hgd (.const (.slice none 0 0)) x 22 ho w.heap.size 43 i _ 1 24 Try.underlying22 hi hz0 hz1 hz2 rfl (by decide) (.slice none 0 0) 0 [] rfl (World.ownsRow_nil _ _ _ _) ad m sc (L.map rgv) hx (by simpa using hm) ?_ (rg_one L) (by unfold maxLen; omega) (by omega) (Nat.le_refl _) ?_
    · intro j u hj
      obtain ⟨hj', hv⟩ := List.getElem?_eq_some_iff.1 hj
      rw [List.length_map] at hj'
      obtain ⟨b, off, e, h1⟩ := hR j hj'
      cases e
      rw [Addr.add_lit, h1.c0, ← hv]
      simp [rgv]
    · intro v' w' h1 h2 _
      have hb' : Below w.heap.size w w' := (Below.refl _ _).grown h2 (Nat.le_refl _) (fun k hk => by cases hk)
      have e : ∃ a' c', v' = .slice a' (0 + m) c' := by
        rcases h1.2 with ⟨hv, hn⟩ | ⟨g, cap, _, hv, _⟩
        · exact ⟨none, 0, by rw [hv, hn]⟩
        · exact ⟨_, _, hv⟩
      obtain ⟨a', c', rfl⟩ := e
      have := h a' c' w' (by show OwnG _ _ _ _ _; unfold OwnG; rw [hm]; simpa using h1) hb'
      simpa using this
theorem wpList_append_rg {w : World} {ops : Array Oper} {rest : List Oper} {o : Oper} {a : Act} {Q : Exit → Act → World → Prop} (hgd : o.guard = none) (s x : Operand)
    (ho : o.op = .call { callee := .builtin .append, args := #[s, x], argTypes := #[22, 22] }) (B : Nat) (av : Option Addr) (n cv : Nat) (L : List Rn) (hn : L.length = n) (hs : a.eval s = .slice av n cv) (hown : OwnG w B av cv L)
    (ad : Addr) (y : Rn) (hx : a.eval x = .slice (some ad) 1 1) (hnews : w.cell? ad = some (rgv y)) (hle : n * 24 ≤ 140737488351232) (w0 : World) (hb : Below B w0 w) (hB : B ≤ w.heap.size)
    (h : ∀ a' c' w', Hid (OwnG w' B a' c' (L ++ [y])) → Below B w0 w' → wpList Try.prog ops Q rest (a.put o.dst (.slice a' (n + 1) c')) w') : wpList Try.prog ops Q (o :: rest) a w := by
  obtain ⟨i, hi, hz0, hz1, hz2⟩ := info_parts info43
  subst hn
  refine wpList_append_own w hgd s x 22 ho B 43 i _ 1 24 Try.underlying22 hi hz0 hz1 hz2 rfl (by decide) _ _ _ hs hown ad 1 1 [rgv y] hx rfl ?_ (by simp [rgv, Value.oneCell']) (by unfold maxLen; omega) (by omega) hB ?_
  · intro j u hj
    match j with
    | 0 =>
      simp only [List.getElem?_cons_zero, Option.some.injEq] at hj
      rw [← hj]
      simpa [Addr.add] using hnews
    | j + 1 => simp at hj
  intro v' w' h1 h2 _
  have hb' : Below B w0 w' := hb.grown h2 hB (fun k hk => (World.ownsRow.lt hown k hk).1)
  have e : ∃ a' c', v' = .slice a' (L.length + 1) c' := by
    rcases h1.2 with ⟨hv, hn⟩ | ⟨g, cap, _, hv, _⟩
    · omega
    · exact ⟨_, _, hv⟩
  obtain ⟨a', c', rfl⟩ := e
  refine h a' c' w' ?_ hb'
  show OwnG _ _ _ _ _
  unfold OwnG
  rw [List.length_append, List.map_append]
  exact h1
/-! ### one stage more -/
theorem gt_app {R : List Int} {j : Nat} (t : List Int) (h : j < R.length) : gt (R ++ t) j = gt R j := by
  unfold gt
  rw [List.getD_eq_getElem?_getD, List.getD_eq_getElem?_getD, List.getElem?_append_left h]
theorem step_app {v : Int} {R : List Int} {x : Rd} (t : List Int) (h : x.1.toNat < R.length) : stepR v (R ++ t) x = stepR v R x ++ t := by
  unfold stepR
  rw [gt_app t h]
  split
  · rw [List.set_append_left _ _ h]
  · rfl
theorem fold_app {v : Int} (t : List Int) : ∀ (xs : List Rd) (R : List Int), (∀ x ∈ xs, x.1.toNat < R.length) → xs.foldl (stepR v) (R ++ t) = xs.foldl (stepR v) R ++ t
  | [], _, _ => rfl
  | x :: xs, R, h => by
    rw [List.foldl_cons, List.foldl_cons, step_app t (h x (by simp)), fold_app t xs _ (fun y hy => by rw [stepR_len]; exact h y (List.mem_cons_of_mem _ hy))]
theorem down_app {l : Lad} (r : List Rd) (t : List Int) (hF : Formed l) : ∀ (i : Nat) (R : List Int), i ≤ l.length → R.length = l.length → downR (l ++ [r]) i (R ++ t) = downR l i R ++ t
  | 0, _, _, _ => rfl
  | i + 1, R, hi, hR => by
    have hg : (l ++ [r]).getD i [] = l.getD i [] := by
      rw [List.getD_eq_getElem?_getD, List.getD_eq_getElem?_getD, List.getElem?_append_left (by omega)]
    have e : rowR (l ++ [r]) i (R ++ t) = rowR l i R ++ t := by
      unfold rowR
      rw [gt_app t (by omega), hg]
      split
      · exact fold_app t _ _ (fun x hx => by have := hF.ok i x hx; unfold readOk at this; omega)
      · rfl
    rw [downR, downR, e, down_app r t hF i _ (by omega) (by rw [rowR_len]; exact hR)]
theorem spread_app {l : Lad} (r : List Rd) (hF : Formed l) {k : Nat} (hk : k < l.length) : spreadL (l ++ [r]) k = spreadL l k ++ [-1] := by
  unfold spreadL
  have e : startR (l ++ [r]).length k = startR l.length k ++ [-1] := by
    unfold startR
    rw [List.length_append, show l.length + [r].length = l.length + 1 from rfl, List.replicate_succ', List.set_append_left _ _ (by simpa using hk)]
  rw [e]
  exact down_app r [-1] hF (k + 1) _ (by omega) (by unfold startR; simp)
theorem rad_app {l : Lad} {r : List Rd} {k : Int} (h1 : mayB l = true) (h2 : mayB (l ++ [r]) = true) (h0 : 0 ≤ k) (hk : k < (l.length : Int)) : radL (l ++ [r]) k = radL l k ++ [-1] := by
  unfold radL stB
  rw [h1, h2, decide_eq_true (show 0 ≤ k ∧ k < (l.length : Int) from ⟨h0, hk⟩), decide_eq_true (show 0 ≤ k ∧ k < ((l ++ [r]).length : Int) from ⟨h0, by rw [List.length_append]; simp; omega⟩)]
  simp only [Bool.and_self, if_true]
  exact spread_app r (may_iff.1 h1).f (by omega)
theorem radL_length {l : Lad} {k : Int} (h1 : mayB l = true) (h0 : 0 ≤ k) (hk : k < (l.length : Int)) : (radL l k).length = l.length := by
  unfold radL stB
  rw [h1, decide_eq_true (show 0 ≤ k ∧ k < (l.length : Int) from ⟨h0, hk⟩)]
  simp only [Bool.and_self, if_true]
  exact spreadL_len _ _
end Go.Proofs.Ytokjbjfpgjincaa
