/-
  The queue's Pop and Push.
-/
import Derived.Test.YtpfhgkgkbefigaaCq
set_option maxRecDepth 20000
namespace Go.Proofs.Ytpfhgkgkbefigaa
open Go.RowKit

theorem getD_take {q : List Nat} {n i : Nat} (h : i < n) : (q.take n).getD i 0 = q.getD i 0 := by
  simp only [List.getD_eq_getElem?_getD]
  rw [List.getElem?_take_of_lt h]
theorem last_not {q : List Nat} {n : Nat} (hn : q.Nodup) (hl : q.length = n + 1) : q.getD n 0 ∉ q.take n := fun hm => by
  obtain ⟨i, hi, e⟩ := mem_getD hm
  have hi' : i < n := by rw [List.length_take] at hi; omega
  rw [getD_take hi'] at e
  have := getD_inj hn (by omega) (by omega) e
  omega
theorem pop_q {B : Nat} {w : World} {c : Nat} {h : Hd} {av : Option Addr} {cap : Nat} {D : Nat → It} {q : List Nat} {n : Nat} (H : QH B w c h av cap D q) (hl : q.length = n + 1) :
    Calls Try.prog 82 #[.pointer (some ⟨c, 3, none⟩)] w fun e w' => e = .returned (.iface 54 (pv (q.getD n 0))) ∧ QH B w' c h av cap D (q.take n) ∧ Item w' (q.getD n 0) (D (q.getD n 0)) (-1) ∧ Chg (Qf c av q) w w' := by
  obtain ⟨Post, hPost⟩ : ∃ Post : Ending → World → Prop, Post = fun e w' => e = .returned (.iface 54 (pv (q.getD n 0))) ∧ QH B w' c h av cap D (q.take n) ∧ Item w' (q.getD n 0) (D (q.getD n 0)) (-1) ∧ Chg (Qf c av q) w w' := ⟨_, rfl⟩
  rw [← hPost]
  have HP : Hid (∀ w', QH B w' c h av cap D (q.take n) → Item w' (q.getD n 0) (D (q.getD n 0)) (-1) → Chg (Qf c av q) w w' → Post (.returned (.iface 54 (pv (q.getD n 0)))) w') := fun w' h1 h2 h3 => by rw [hPost]; exact ⟨rfl, h1, h2, h3⟩
  clear hPost
  obtain ⟨g, cur, rfl, hg⟩ := H.rowAt (by omega)
  have hni : n < q.length := by omega
  have hcb : c ≠ q.getD n 0 := blk_ne H.hd (H.it n hni) (by decide)
  have hcg : c ≠ g := blk_ne H.hd hg (by decide)
  have hgk : ∀ k, k < q.length → q.getD k 0 ≠ g := fun k hk => blk_ne (H.it k hk) hg (by decide)
  have hck : ∀ k, k < q.length → q.getD k 0 ≠ c := fun k hk => blk_ne (H.it k hk) H.hd (by decide)
  obtain ⟨w1, hw1⟩ : ∃ w1, w1 = w.setCell ⟨q.getD n 0, 4, none⟩ (.int .i64 (-1)) := ⟨_, rfl⟩
  obtain ⟨w2, hw2⟩ : ∃ w2, w2 = w1.setCell ⟨g, n, none⟩ (.pointer none) := ⟨_, rfl⟩
  obtain ⟨w3, hw3⟩ : ∃ w3, w3 = w2.setCell ⟨c, 3, none⟩ (.slice (some ⟨g, 0, none⟩) n cap) := ⟨_, rfl⟩
  have r0 : PRow B w (some ⟨g, 0, none⟩) (n + 1) cap q := by have := H.row; rw [hl] at this; exact this
  have r1 : PRow B w1 (some ⟨g, 0, none⟩) (n + 1) cap q := r0.same (fun g' e => by cases e; rw [hw1]; exact Below.heap_setCell _ ⟨q.getD n 0, 4, none⟩ _ _ (Ne.symm (hgk n hni)))
  have r2 : PRow B w2 (some ⟨g, 0, none⟩) n cap (q.take n) := by rw [hw2]; exact r1.pop _
  have hd1 : HdAt w1 c h (some ⟨g, 0, none⟩) (n + 1) cap := by rw [hw1]; have := H.hd; rw [hl] at this; exact this.other hcb
  have hd2 : HdAt w2 c h (some ⟨g, 0, none⟩) (n + 1) cap := by rw [hw2]; exact hd1.other hcg
  have i1 := (H.it n hni).place (-1)
  rw [← hw1] at i1
  have htl : (q.take n).length = n := by rw [List.length_take]; omega
  have Q3 : QH B w3 c h (some ⟨g, 0, none⟩) cap D (q.take n) := by
    refine ⟨?_, ?_, fun k hk => ?_, H.nod.sublist (List.take_sublist _ _), by have := H.sz; omega, H.lo.1, fun b hb => H.lo.2 b (List.mem_of_mem_take hb)⟩
    · rw [htl, hw3]; exact hd2.row _ _ _
    · rw [htl]
      exact r2.same (fun g' e => by cases e; rw [hw3]; exact Below.heap_setCell _ ⟨c, 3, none⟩ _ _ (Ne.symm hcg))
    · rw [htl] at hk
      have hk' : k < q.length := by omega
      rw [getD_take hk, hw3, hw2, hw1]
      exact (((H.it k hk').other (fun e => by have := getD_inj H.nod hk' hni e; omega)).other (hgk k hk')).other (hck k hk')
  have I3 : Item w3 (q.getD n 0) (D (q.getD n 0)) (-1) := by
    rw [hw3, hw2]
    exact (i1.other (hgk n hni)).other (hck n hni)
  have C3 : Chg (Qf c (some ⟨g, 0, none⟩) q) w w3 := by
    rw [hw3, hw2, hw1]
    exact (((Chg.refl _ w).set (.inl (.inr (.inr (getD_mem hni)))) _ _).set (.inl (.inr (.inl rfl))) _ _).set (.inl (.inl rfl)) _ _
  have HR := HP.out w3 Q3 I3 C3
  have c3 := H.hd.c3
  have rn := (r0.cell (Nat.lt_succ_self n)).1
  have rf := (r0.cell (Nat.lt_succ_self n)).2
  have cf := H.hd.free 3
  have in4 := (H.it n hni).c4
  have inf := (H.it n hni).free 4
  have rn1 := (r1.cell (Nat.lt_succ_self n)).1
  have rf1 := (r1.cell (Nat.lt_succ_self n)).2
  have c32 := hd2.c3
  have cf2 := hd2.free 3
  have hsz := H.sz
  have hcap := H.capl (by omega)
  obtain ⟨_, _, e0, _, _, hmx, _⟩ := r0.at (by omega)
  cases e0
  rw [hl] at c3 hsz hcap
  clear H HP r0 r1 r2 hd1 hd2 i1 htl Q3 I3 C3 hgk hck hg hcb hcg hl hni
  unfold pv at *
  generalize q.getD n 0 = b at *
  have hsub : ((n : Int) + 1 - 1) = n := by omega
  subst hw1 hw2 hw3
  go_enter Try.func82, Try.ntmps82
  go_wp2
  exact HR

theorem info54 : (Try.prog.info? 54).map (fun i => (i.zero, i.size, i.bytes)) = some (some (.pointer none), 1, 8) := by kernel_rfl
theorem info_parts {t : TypeId} {z : Value} {n m : Nat} (h : (Try.prog.info? t).map (fun i => (i.zero, i.size, i.bytes)) = some (some z, n, m)) : ∃ i, Try.prog.info? t = some i ∧ i.zero = some z ∧ i.size = n ∧ i.bytes = m := by
  cases hi : Try.prog.info? t with
  | none => rw [hi] at h; simp at h
  | some i =>
    rw [hi] at h
    simp only [Option.map_some, Option.some.injEq, Prod.mk.injEq] at h
    exact ⟨i, rfl, h.1, h.2.1, h.2.2⟩
theorem PRow.blk {B : Nat} {w : World} {g n cap : Nat} {q : List Nat} (h : PRow B w (some ⟨g, 0, none⟩) n cap q) : ∃ cur, w.heap[g]? = some (.cells cur 54 (0, 0)) ∧ B ≤ g := by
  rcases h.2 with ⟨e2, _⟩ | ⟨g', _, cur, e2, hB, hg', _⟩
  · simp at e2
  · simp only [Value.slice.injEq, Option.some.injEq, Addr.mk.injEq] at e2
    rw [e2.1.1]
    exact ⟨cur, hg', hB⟩
/-- append of one item to what is gathered. -/
theorem wpList_append_pv {T : TypeId} (hT : Try.prog.underlying T = some (.slice 54)) {w : World} {ops : Array Oper} {rest : List Oper} {o : Oper} {a : Act} {Q : Exit → Act → World → Prop} (hgd : o.guard = none) (s x : Operand)
    (ho : o.op = .call { callee := .builtin .append, args := #[s, x], argTypes := #[T, T] }) (B : Nat) (av : Option Addr) (n cv : Nat) (q : List Nat) (hs : a.eval s = .slice av n cv) (hown : PRow B w av n cv q)
    (b' sc : Nat) (b : Nat) (hx : a.eval x = .slice (some ⟨b', 0, none⟩) 1 sc) (hX : w.heap[b']? = some (.cells #[pv b] 54 (0, 0))) (hle : n + 1 ≤ 3000000) (hB : B ≤ w.heap.size)
    (h : ∀ a' c' w', PRow B w' a' (n + 1) c' (q ++ [b]) → w.grownBy w' (Value.ownBlock (.slice av n cv)) → wpList Try.prog ops Q rest (a.put o.dst (.slice a' (n + 1) c')) w') : wpList Try.prog ops Q (o :: rest) a w := by
  obtain ⟨i, hi, hz0, hz1, hz2⟩ := info_parts info54
  refine wpList_append_own w hgd s x T ho B 54 i _ 1 8 hT hi hz0 hz1 hz2 rfl (by decide) _ _ _ hs hown ⟨b', 0, none⟩ 1 sc [pv b] hx rfl ?_ (by intro u hu; rw [List.mem_singleton.1 hu]; rfl) (by unfold maxLen; omega) (by omega) hB ?_
  · intro j u hj
    rw [Addr.add_lit, Nat.zero_add, cell_of_row w b' j _ 54 (0, 0) hX]
    simpa using hj
  · intro v' w' h1 h2 _
    have e : ∃ a' c', v' = .slice a' (n + 1) c' := by
      rcases h1.2 with ⟨hv, hn⟩ | ⟨g, cap, _, hv, _⟩
      · omega
      · exact ⟨_, _, hv⟩
    obtain ⟨a', c', rfl⟩ := e
    refine h a' c' w' ?_ h2
    unfold PRow
    rw [List.map_append]
    exact h1
theorem PRow.kept {B : Nat} {w w' : World} {av : Option Addr} {n c : Nat} {q : List Nat} {row : Option Nat} (h : PRow B w av n c q) (hg : w.grownBy w' row) (hne : ∀ g, av = some ⟨g, 0, none⟩ → some g ≠ row) : PRow B w' av n c q := by
  rcases h.2 with ⟨e2, _⟩ | ⟨g, _, _, e2, _, hg', _⟩
  · refine h.same (fun b e => ?_)
    simp only [Value.slice.injEq] at e2
    rw [e2.1] at e; cases e
  · refine h.same (fun b e => ?_)
    simp only [Value.slice.injEq] at e2
    rw [e2.1] at e; cases e
    exact hg.block _ (Array.getElem?_eq_some_iff.1 hg').1 (hne _ e2.1)
theorem getD_snoc_l {q : List Nat} {b i : Nat} (h : i < q.length) : (q ++ [b]).getD i 0 = q.getD i 0 := by
  simp only [List.getD_eq_getElem?_getD]
  rw [List.getElem?_append_left h]
theorem getD_snoc_r {q : List Nat} {b : Nat} : (q ++ [b]).getD q.length 0 = b := by simp [List.getD_eq_getElem?_getD]

theorem push_q {B : Nat} {w : World} {c : Nat} {h : Hd} {av : Option Addr} {cap : Nat} {D : Nat → It} {q : List Nat} {b : Nat} {p : Int} (H : QH B w c h av cap D q) (hb : Item w b (D b) p) (hbq : b ∉ q) (hBb : B ≤ b) (hlq : q.length < 1000) :
    Calls Try.prog 83 #[.pointer (some ⟨c, 3, none⟩), .iface 54 (pv b)] w fun e w' => e = .returned (.tuple #[]) ∧ ∃ av' cap', QH B w' c h av' cap' D (q ++ [b]) ∧ Chg (fun k => Qf c av q k ∨ k = b) w w' := by
  obtain ⟨Post, hPost⟩ : ∃ Post : Ending → World → Prop, Post = fun e w' => e = .returned (.tuple #[]) ∧ ∃ av' cap', QH B w' c h av' cap' D (q ++ [b]) ∧ Chg (fun k => Qf c av q k ∨ k = b) w w' := ⟨_, rfl⟩
  rw [← hPost]
  have HP : Hid (∀ w' av' cap', QH B w' c h av' cap' D (q ++ [b]) → Chg (fun k => Qf c av q k ∨ k = b) w w' → Post (.returned (.tuple #[])) w') := fun w' a' c' h1 h2 => by rw [hPost]; exact ⟨rfl, a', c', h1, h2⟩
  clear hPost
  have hcb : c ≠ b := blk_ne H.hd hb (by decide)
  have hbr : ∀ g, av = some ⟨g, 0, none⟩ → b ≠ g := fun g e => by
    subst e
    obtain ⟨cur, hg, _⟩ := H.row.blk
    exact blk_ne hb hg (by decide)
  have hcr : ∀ g, av = some ⟨g, 0, none⟩ → c ≠ g := fun g e => by
    subst e
    obtain ⟨cur, hg, _⟩ := H.row.blk
    exact blk_ne H.hd hg (by decide)
  have hqr : ∀ k, k < q.length → ∀ g, av = some ⟨g, 0, none⟩ → q.getD k 0 ≠ g := fun k hk g e => by
    subst e
    obtain ⟨cur, hg, _⟩ := H.row.blk
    exact blk_ne (H.it k hk) hg (by decide)
  have hqc : ∀ k, k < q.length → q.getD k 0 ≠ c := fun k hk => blk_ne (H.it k hk) H.hd (by decide)
  have hta : ∀ W, (Instr.typeAssert (.iface 54 (.pointer (some ⟨b, 0, none⟩))) 20 54 false).run Try.prog W = .ok (.pointer (some ⟨b, 0, none⟩)) W := fun _ => by kernel_rfl
  -- the world ahead of append
  obtain ⟨w1, hw1⟩ : ∃ w1, w1 = (w.setCell ⟨b, 4, none⟩ (.int .i64 (q.length : Int))).alloc (.cells #[pv b] 54) := ⟨_, rfl⟩
  have hs1 : w1.heap.size = w.heap.size + 1 := by rw [hw1, World.size_alloc]; simp [World.setCell]
  have old : ∀ k, k < w.heap.size → k ≠ b → w1.heap[k]? = w.heap[k]? := fun k hk hne => by
    rw [hw1]
    exact (Below.heap_alloc _ _ k (by simpa [World.setCell] using hk)).trans (Below.heap_setCell w ⟨b, 4, none⟩ _ k hne)
  have i1 : Item w1 b (D b) (q.length : Int) := by
    have h0 := hb.place (q.length : Int)
    exact h0.same (by rw [hw1]; exact Below.heap_alloc _ _ b h0.lt)
  have x1 : w1.heap[w.heap.size]? = some (.cells #[pv b] 54 (0, 0)) := by
    have := heap_alloc_new (w.setCell ⟨b, 4, none⟩ (.int .i64 (q.length : Int))) (.cells #[pv b] 54)
    rw [hw1]
    simpa [World.setCell] using this
  have r1 : PRow B w1 av q.length cap q := H.row.same (fun g e => by
    subst e
    obtain ⟨cur, hg, _⟩ := H.row.blk
    exact old g (Array.getElem?_eq_some_iff.1 hg).1 (Ne.symm (hbr g rfl)))
  have hBs : B ≤ w1.heap.size := by have := hb.lt; omega
  have HF : Hid (∀ a' c' w2, PRow B w2 a' (q.length + 1) c' (q ++ [b]) → w1.grownBy w2 (Value.ownBlock (.slice av q.length cap)) → Post (.returned (.tuple #[])) (w2.setCell ⟨c, 3, none⟩ (.slice a' (q.length + 1 : Nat) c')) ∧ HdAt w2 c h av q.length cap) := fun a' c' w2 hr hg => by
    have own : ∀ k, Value.ownBlock (.slice av q.length cap) = some k → av = some ⟨k, 0, none⟩ := fun k e => by
      rcases H.row.2 with ⟨e1, _⟩ | ⟨g, cp, cur, e1, _⟩
      · simp only [Value.slice.injEq] at e1
        rw [e1.1] at e; simp [Value.ownBlock] at e
      · simp only [Value.slice.injEq] at e1
        rw [e1.1] at e ⊢
        simp [Value.ownBlock] at e
        rw [e]
    have blk2 : ∀ k, k < w.heap.size → k ≠ b → av ≠ some ⟨k, 0, none⟩ → w2.heap[k]? = w.heap[k]? := fun k hk hne ha => by
      rw [hg.block k (by omega) (fun e => ha (own k e.symm)), old k hk hne]
    have hd2 : HdAt w2 c h av q.length cap := (blk2 c H.hd.lt hcb (fun e => hcr c e rfl)).trans H.hd
    have i2 : Item w2 b (D b) (q.length : Int) := i1.same (hg.block b i1.lt (fun e => hbr b (own b e.symm) rfl))
    refine ⟨HP.out _ a' c' ⟨?_, ?_, fun k hk => ?_, ?_, ?_, H.lo.1, fun d hd => ?_⟩ ?_, hd2⟩
    · rw [List.length_append, List.length_singleton]
      exact hd2.row _ _ _
    · rw [List.length_append, List.length_singleton]
      refine hr.same (fun g' e => Below.heap_setCell _ ⟨c, 3, none⟩ _ _ ?_)
      subst e
      obtain ⟨cur, hg', _⟩ := hr.blk
      exact Ne.symm (blk_ne hd2 hg' (by decide))
    · rw [List.length_append, List.length_singleton] at hk
      by_cases hk' : k < q.length
      · rw [getD_snoc_l hk']
        have hkb : q.getD k 0 ≠ b := fun e => hbq (e ▸ getD_mem hk')
        exact ((H.it k hk').same (blk2 _ (H.it k hk').lt hkb (fun e => hqr k hk' _ e rfl))).other (hqc k hk')
      · obtain rfl : k = q.length := by omega
        rw [getD_snoc_r]
        exact i2.other (Ne.symm hcb)
    · rw [List.nodup_append]
      refine ⟨H.nod, by simp, fun x hx y hy e => ?_⟩
      rw [List.mem_singleton] at hy
      subst hy e
      exact hbq hx
    · rw [List.length_append, List.length_singleton]; omega
    · rcases List.mem_append.1 hd with h1 | h1
      · exact H.lo.2 d h1
      · rw [List.mem_singleton.1 h1]; exact hBb
    · refine Chg.set ?_ (.inl (.inl (.inl rfl))) _ _
      refine ⟨hg.os.trans (by rw [hw1]; rfl), hg.tape.trans (by rw [hw1]; rfl), hg.output.trans (by rw [hw1]; rfl), by have := hg.size; omega, fun k hk hf => blk2 k hk (fun e => hf (.inr e)) (fun e => hf (.inl (.inr (.inl e))))⟩
  have c3 := H.hd.c3
  have b4 := hb.c4
  have bf := hb.free 4
  clear old i1 hqr hqc hcr hbr H hb hbq hcb HP
  unfold pv at *
  have Hw1 : Hid (w1 = (w.setCell ⟨b, 4, none⟩ (.int .i64 (q.length : Int))).alloc (.cells #[.pointer (some ⟨b, 0, none⟩)] 54)) := hw1
  have hs0 : (w.setCell ⟨b, 4, none⟩ (.int .i64 (q.length : Int))).heap.size = w.heap.size := by simp [World.setCell]
  subst hw1
  go_enter Try.func83, Try.ntmps83
  go_wp2_with (at_builtin; refine wpList_append_pv Try.underlying51 rfl (.tmp 17) (.tmp 19) rfl B av q.length cap q rfl r1 w.heap.size 1 b (by first | rfl | (rw [← hs0]; rfl)) x1 (by omega) hBs ?_; intro a' c' w2 hr hg; obtain ⟨HR2, hd2⟩ := HF.out a' c' w2 hr hg; have c32 := hd2.c3; have cf2 := hd2.free 3; clear hr hg HF hd2)
  go_end0
  exact HR2
end Go.Proofs.Ytpfhgkgkbefigaa
