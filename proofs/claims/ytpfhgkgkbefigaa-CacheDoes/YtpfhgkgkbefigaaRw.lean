/-
  The document's cache: without.
-/
import Derived.Test.YtpfhgkgkbefigaaRr
set_option maxRecDepth 20000
namespace Go.Proofs.Ytpfhgkgkbefigaa
open Go.RowKit Go.Maps

theorem info43 : (Try.prog.info? 43).map (fun i => (i.zero, i.size, i.bytes)) = some (some (.agg #[.int .i64 0, .int .i64 0, .int .i64 0, .bool false]), 4, 32) := by kernel_rfl
theorem ecells_one (es : List E) : ∀ u ∈ ecells es, u.oneCell' = true := fun u hu => by
  obtain ⟨e, _, h⟩ := List.mem_flatMap.1 hu
  simp [ecell] at h
  rcases h with rfl | rfl | rfl | rfl <;> rfl
/-- append of entries. -/
theorem wpList_append_es {w : World} {ops : Array Oper} {rest : List Oper} {o : Oper} {a : Act} {Q : Exit → Act → World → Prop} (hgd : o.guard = none) (s x : Operand)
    (ho : o.op = .call { callee := .builtin .append, args := #[s, x], argTypes := #[27, 27] }) (B : Nat) (av : Option Addr) (cv n : Nat) (l : List E) (hn : l.length = n) (hs : a.eval s = .slice av n cv) (hown : ERow B w av cv l)
    (ad : Addr) (k c : Nat) (es : List E) (hk : es.length = k) (hx : a.eval x = .slice (some ad) k c) (hc : ∀ j u, (ecells es)[j]? = some u → w.cell? (ad.add j) = some u) (hle : n + k ≤ 3000000) (hB : B ≤ w.heap.size)
    (h : ∀ a' c' w', ERow B w' a' c' (l ++ es) → w.grownBy w' (Value.ownBlock (.slice av n cv)) → wpList Try.prog ops Q rest (a.put o.dst (.slice a' (n + k) c')) w') : wpList Try.prog ops Q (o :: rest) a w := by
  subst hn
  obtain ⟨i, hi, hz0, hz1, hz2⟩ := info_parts info43
  refine wpList_append_own w hgd s x 27 ho B 43 i _ 4 32 Try.underlying27 hi hz0 hz1 hz2 rfl (by decide) _ _ _ hs hown ad k c (ecells es) hx (by rw [ecells_len, hk]) hc (ecells_one es) (by unfold maxLen; omega) (by omega) hB ?_
  intro v' w' h2 h3 _
  have e : ∃ a' c', v' = .slice a' (l.length + k) c' := by
    rcases h2.2 with ⟨hv, hn⟩ | ⟨g, cap, _, hv, _⟩
    · exact ⟨none, 0, by rw [hv, hn]⟩
    · exact ⟨_, _, hv⟩
  obtain ⟨a', c', rfl⟩ := e
  refine h a' c' w' ?_ h3
  unfold ERow
  rw [ecells_append, List.length_append, hk]
  exact h2
theorem rwithout_c {B : Nat} {w : World} {r : Nat} {m : Int} {l : List E} {av : Option Addr} {cv : Nat} (h : Rc B w r m l av cv) {k : Nat} (hk : k < l.length) :
    Calls Try.prog 29 #[.pointer (some ⟨r, 0, none⟩), .int .i64 (k : Int)] w fun e w' => e = .returned (.tuple #[]) ∧ (∃ a' c', Rc B w' r m (l.take k ++ l.drop (k + 1)) a' c' ∧ ERow w.heap.size w' a' c' (l.take k ++ l.drop (k + 1))) ∧ Chg (fun k => k = r) w w' := by
  obtain ⟨Post, hPost⟩ : ∃ Post : Ending → World → Prop, Post = fun e w' => e = .returned (.tuple #[]) ∧ (∃ a' c', Rc B w' r m (l.take k ++ l.drop (k + 1)) a' c' ∧ ERow w.heap.size w' a' c' (l.take k ++ l.drop (k + 1))) ∧ Chg (fun k => k = r) w w' := ⟨_, rfl⟩
  rw [← hPost]
  have HP : Hid (∀ w' a' c', Rc B w' r m (l.take k ++ l.drop (k + 1)) a' c' → ERow w.heap.size w' a' c' (l.take k ++ l.drop (k + 1)) → Chg (fun k => k = r) w w' → Post (.returned (.tuple #[])) w') := fun w' a' c' h1 h3 h2 => by rw [hPost]; exact ⟨rfl, ⟨a', c', h1, h3⟩, h2⟩
  clear hPost
  have c1 := h.c1
  have hsz := h.sz
  rcases h.row.form with ⟨_, he, _⟩ | ⟨g, rfl⟩
  · rw [he] at hk; simp at hk
  obtain ⟨cur, hg, hgB, hcv, hmx, _, _⟩ := h.row.blk
  have hBw : B ≤ w.heap.size := Nat.le_trans h.lo (Nat.le_of_lt h.lt)
  have hcell : ∀ (w1 : World), w1.heap[g]? = w.heap[g]? → ∀ i, i < l.length → ∀ j, j < 4 → w1.cell? ⟨g, i * 4 + j, none⟩ = (ecells l)[i * 4 + j]? := fun w1 hw1 i hi j hj => by
    have hc := (h.row.same (w' := w1) (fun g' e => by cases e; exact hw1)).cells (g := g) rfl
    obtain ⟨u, hu⟩ : ∃ u, (ecells l)[i * 4 + j]? = some u := by
      rw [ecells_at l i hi j hj]
      exact ⟨_, List.getElem?_eq_getElem (show j < 4 from hj)⟩
    have := hc _ u hu
    rw [Addr.add_lit, Nat.zero_add] at this
    rw [this, hu]
  have hglt := (Array.getElem?_eq_some_iff.1 hg).1
  have htl : (l.take k).length = k := by rw [List.length_take]; omega
  have hdl : (l.drop (k + 1)).length = l.length - (k + 1) := by rw [List.length_drop]
  have hc1 : ∀ j u, (ecells (l.take k))[j]? = some u → w.cell? ((⟨g, 0, none⟩ : Addr).add j) = some u := fun j u hj => by
    have hjl : j < k * 4 := by
      have := (List.getElem?_eq_some_iff.1 hj).1
      rw [ecells_len, htl] at this
      exact this
    have e : (ecells (l.take k))[j]? = (ecells l)[j]? := by
      have : ecells l = ecells (l.take k) ++ ecells (l.drop k) := by rw [← ecells_append, List.take_append_drop]
      rw [this, List.getElem?_append_left (by rw [ecells_len, htl]; exact hjl)]
    rw [Addr.add_lit, Nat.zero_add, ← hj, e, show j = j / 4 * 4 + j % 4 by omega]
    exact hcell w rfl _ (by omega) _ (by omega)
  have hc2 : ∀ (w1 : World), w1.heap[g]? = w.heap[g]? → ∀ j u, (ecells (l.drop (k + 1)))[j]? = some u → w1.cell? ((⟨g, (k + 1) * 4, none⟩ : Addr).add j) = some u := fun w1 hw1 j u hj => by
    have hjl : j < (l.length - (k + 1)) * 4 := by
      have := (List.getElem?_eq_some_iff.1 hj).1
      rw [ecells_len, hdl] at this
      exact this
    have e : (ecells (l.drop (k + 1)))[j]? = (ecells l)[(k + 1) * 4 + j]? := by
      have : ecells l = ecells (l.take (k + 1)) ++ ecells (l.drop (k + 1)) := by rw [← ecells_append, List.take_append_drop]
      have hl1 : (ecells (l.take (k + 1))).length = (k + 1) * 4 := by rw [ecells_len, List.length_take]; congr 1; omega
      rw [this, List.getElem?_append_right (by omega), hl1]
      congr 1
      omega
    rw [Addr.add_mid, ← hj, e, show (k + 1) * 4 + j = ((k + 1) + j / 4) * 4 + j % 4 by omega]
    exact hcell w1 hw1 _ (by omega) _ (by omega)
  have HF : Hid (∀ w1 w2 a1 q1 a2 q2, w.grownBy w1 none → ERow w.heap.size w1 a1 q1 (l.take k) → ERow w.heap.size w2 a2 q2 (l.take k ++ l.drop (k + 1)) → w1.grownBy w2 (Value.ownBlock (.slice a1 k q1)) → (w2.cell? ⟨r, 1, none⟩ = some (.slice (some ⟨g, 0, none⟩) l.length cv) ∧ w2.frozen? ⟨r, 1, none⟩ = false) ∧ Post (.returned (.tuple #[])) (w2.setCell ⟨r, 1, none⟩ (.slice a2 (k + (l.length - (k + 1)) : Nat) q2))) := fun w1 w2 a1 q1 a2 q2 g1 e1 e2 g2 => by
    have hown : ∀ b, Value.ownBlock (.slice a1 k q1) = some b → w.heap.size ≤ b := fun b hb => by
      have := (World.ownsRow.lt e1 b (by rw [htl]; exact hb)).1
      exact this
    have blk : ∀ b, b < w.heap.size → w2.heap[b]? = w.heap[b]? := fun b hb => (g2.block b (Nat.lt_of_lt_of_le hb g1.size) (fun e => by have := hown b e.symm; omega)).trans (g1.block b hb (by simp))
    have hr2 : w2.heap[r]? = some (.cells #[.int .i64 m, .slice (some ⟨g, 0, none⟩) l.length cv] 29 (0, 0)) := (blk r h.lt).trans h.hd
    have hlen : (l.take k ++ l.drop (k + 1)).length = k + (l.length - (k + 1)) := by rw [List.length_append, htl, hdl]
    have hro : ERow w.heap.size (w2.setCell ⟨r, 1, none⟩ (.slice a2 (k + (l.length - (k + 1)) : Nat) q2)) a2 q2 (l.take k ++ l.drop (k + 1)) := e2.same (fun g' e => Below.heap_setCell w2 ⟨r, 1, none⟩ _ g' (fun e2' => by
      subst e
      obtain ⟨cur', hg', hb', _⟩ := e2.blk
      have e3 : g' = r := e2'
      have := h.lt
      omega))
    refine ⟨⟨by rw [cell_of_row w2 r 1 _ 29 (0, 0) hr2]; rfl, frozen_of_row w2 r 1 _ 29 hr2⟩, HP.out _ a2 q2 ⟨?_, ?_, h.lo, by rw [hlen]; omega⟩ hro ?_⟩
    · rw [heap_setCell_same w2 r 1 _ 29 _ hr2, hlen]
      rfl
    · refine ⟨hro.1, ?_⟩
      rcases hro.2 with h5 | ⟨gg, cap', cur', hv, hb, rr⟩
      · exact .inl h5
      · exact .inr ⟨gg, cap', cur', hv, Nat.le_trans hBw hb, rr⟩
    · refine ⟨g2.os.trans g1.os, g2.tape.trans g1.tape, g2.output.trans g1.output, by have := g1.size; have := g2.size; simp [World.setCell]; omega, fun b hs hb => ?_⟩
      exact (Below.heap_setCell w2 ⟨r, 1, none⟩ _ b (fun e => hb e)).trans (blk b hs)
  have HG : Hid (∀ w1, w.grownBy w1 none → w1.cell? ⟨r, 1, none⟩ = some (.slice (some ⟨g, 0, none⟩) l.length cv) ∧ w1.heap[g]? = w.heap[g]? ∧ w.heap.size ≤ w1.heap.size) := fun w1 g1 => by
    have hr1 : w1.heap[r]? = some (.cells #[.int .i64 m, .slice (some ⟨g, 0, none⟩) l.length cv] 29 (0, 0)) := (g1.block r h.lt (by simp)).trans h.hd
    exact ⟨by rw [cell_of_row w1 r 1 _ 29 (0, 0) hr1]; rfl, g1.block g hglt (by simp), g1.size⟩
  have hnil : ERow w.heap.size w none 0 [] := ⟨rfl, .inl ⟨rfl, rfl⟩⟩
  have hk' : (k : Int) + 1 ≤ (l.length : Int) := by omega
  have HC2 : Hid (∀ (w1 : World), w1.heap[g]? = w.heap[g]? → ∀ j u, (ecells (l.drop (k + 1)))[j]? = some u → w1.cell? ((⟨g, (k + 1) * 4, none⟩ : Addr).add j) = some u) := hc2
  clear hc2 hcell HP h hg
  go_enter Try.func29, Try.ntmps29
  go_wp2_with (at_builtin; first
    | (refine wpList_append_es rfl _ (.tmp 10) rfl w.heap.size none 0 0 [] rfl rfl hnil ⟨g, 0, none⟩ k cv (l.take k) htl rfl hc1 (by omega) (Nat.le_refl _) ?_; intro a1 q1 w1 e1 g1; rw [List.nil_append] at e1; rw [Nat.zero_add]; obtain ⟨c11, hgw, hsw⟩ := HG.out w1 g1)
    | (refine wpList_append_es rfl _ (.tmp 19) rfl w.heap.size a1 q1 k (l.take k) htl rfl e1 (if cv = k + 1 then ⟨g, 0, none⟩ else ⟨g, (k + 1) * 4, none⟩) (l.length - (k + 1)) (cv - (k + 1)) (l.drop (k + 1)) hdl (by show Value.slice (if cv = k + 1 then some ⟨g, 0, none⟩ else some ⟨g, (k + 1) * 4, none⟩) _ _ = _; rw [apply_ite some]) (fun j u hj => by
        by_cases hcvk : cv = k + 1
        · exfalso
          have := (List.getElem?_eq_some_iff.1 hj).1
          rw [ecells_len, hdl] at this
          omega
        · rw [if_neg hcvk]
          exact HC2.out w1 hgw j u hj) (by omega) hsw ?_
       intro a2 q2 w2 e2 g2
       obtain ⟨⟨c12, f12⟩, R⟩ := HF.out w1 w2 a1 q1 a2 q2 g1 e1 e2 g2
       clear e1 e2 g1 g2 HF HG HC2))
  all_goals (go_end0; exact R)
end Go.Proofs.Ytpfhgkgkbefigaa
