/-
  The document's overlay: New.
-/
import Derived.Test.YthanmgejgmhccaaRf
set_option maxRecDepth 20000
namespace Go.Proofs.Ythanmgejgmhccaa
open C Go.RowKit Go.Shelf

theorem ownsRow_apart {W W' : World} {b e size k : Nat} {v : Value} {xs : List Value} {r : Option Nat} (h : W.ownsRow b e size v k xs) (hg : W.grownBy W' r) (hne : ∀ g, v.ownBlock = some g → r ≠ some g) : W'.ownsRow b e size v k xs := by
  refine ⟨h.1, ?_⟩
  rcases h.2 with h0 | ⟨g, cap, cur, hv, hb, hh, hr⟩
  · exact .inl h0
  · refine .inr ⟨g, cap, cur, hv, hb, (hg.block g (Array.getElem?_eq_some_iff.1 hh).1 (fun e' => ?_)).trans hh, hr⟩
    subst hv
    exact hne g rfl e'.symm
theorem cell_one_new (W : World) (T : TypeId) (u : Value) : ∀ (j : Nat) (x : Value), [u][j]? = some x → (W.alloc (.cells #[u] T)).cell? (Addr.add ⟨W.heap.size, 0, none⟩ j) = some x := by
  intro j x h
  have e := cell_of_row (W.alloc (.cells #[u] T)) W.heap.size j _ T (0, 0) (heap_alloc_new W _)
  match j with
  | 0 => simpa [Addr.add] using e.trans h
  | j + 1 => simp at h
/-- The slice is the call's own: nil, or the head of a row that begins with these bytes. -/
def Own (w : World) (B : Nat) (a : Option Addr) (c : Nat) (ys : List Int) : Prop := w.ownsRow B 5 1 (.slice a ys.length c) ys.length (ys.map (Value.int .u8))
theorem Own.nil (w : World) (B : Nat) : Own w B none 0 [] := World.ownsRow_nil w B 5 1
theorem Own.block {w : World} {B : Nat} {a : Option Addr} {c : Nat} {ys : List Int} (h : Own w B a c ys) : ∀ k, (Value.slice a ys.length c).ownBlock = some k → B ≤ k ∧ ∃ cur, w.heap[k]? = some (.cells cur 5 (0, 0)) := by
  intro k hk
  rcases h.2 with ⟨hv, _⟩ | ⟨g, cap, cur, hv, hb, hh, _⟩
  · rw [hv] at hk; simp [Value.ownBlock] at hk
  · rw [hv] at hk
    obtain rfl : g = k := by simpa [Value.ownBlock] using hk
    exact ⟨hb, cur, hh⟩
theorem Own.pre {w : World} {B : Nat} {a : Option Addr} {c : Nat} {ys : List Int} (h : Own w B a c ys) (hl : 0 < ys.length) : ∃ g, a = some ⟨g, 0, none⟩ ∧ B ≤ g ∧ Pre w g ys := by
  rcases h.2 with ⟨_, h0⟩ | ⟨g, cap, cur, hv, hb, hg, hc, _, hs, ht⟩
  · omega
  · simp only [Value.slice.injEq] at hv
    refine ⟨g, hv.1, hb, cur, hg, by omega, fun k hk => ?_⟩
    have h1 : (cur.toList.take (ys.length * 1))[k]? = (ys.map (Value.int .u8))[k]? := by rw [ht]
    rw [List.getElem?_take, if_pos (by omega), List.getElem?_map, List.getElem?_eq_getElem hk] at h1
    rw [← Array.getElem?_toList, h1, List.getD_eq_getElem?_getD, List.getElem?_eq_getElem hk]
    rfl
/-- One byte at the end of what the call has gathered. -/
theorem wpList_append_byte {w : World} {ops : Array Oper} {rest : List Oper} {o : Oper} {a : Act} {Q : Exit → Act → World → Prop} (hgd : o.guard = none) (s x : Operand)
    (ho : o.op = .call { callee := .builtin .append, args := #[s, x], argTypes := #[32, 32] }) (B : Nat) (av : Option Addr) (n cv : Nat) (L : List Int) (hn : L.length = n) (hs : a.eval s = .slice av n cv) (hown : Own w B av cv L)
    (ad : Addr) (y : Int) (hx : a.eval x = .slice (some ad) 1 1) (hnews : ∀ j u, [Value.int .u8 y][j]? = some u → w.cell? (ad.add j) = some u) (hle : n ≤ 100000000) (hB : B ≤ w.heap.size)
    (h : ∀ a' c' w', Hid (Own w' B a' c' (L ++ [y])) → Hid (w.grownBy w' (Value.ownBlock (.slice av n cv))) → wpList Try.prog ops Q rest (a.put o.dst (.slice a' (n + 1) c')) w') : wpList Try.prog ops Q (o :: rest) a w := by
  obtain ⟨i, hi, hz0, hz1, hz2⟩ := info_parts info5
  subst hn
  refine wpList_append_own w hgd s x 32 ho B 5 i _ 1 1 Try.underlying32 hi hz0 hz1 hz2 rfl (by decide) _ _ _ hs hown ad 1 1 [.int .u8 y] hx rfl hnews (by simp [Value.oneCell']) (by unfold maxLen; omega) (by omega) hB ?_
  intro v' w' h1 h2 _
  have e : ∃ a' c', v' = .slice a' (L.length + 1) c' := by
    rcases h1.2 with ⟨hv, hn⟩ | ⟨g, cap, _, hv, _⟩
    · omega
    · exact ⟨_, _, hv⟩
  obtain ⟨a', c', rfl⟩ := e
  refine h a' c' w' ?_ h2
  show Own _ _ _ _ _
  unfold Own
  rw [List.length_append, List.map_append]
  exact h1
/-- Edits as the document takes them: none, or a row. -/
structure Er (w : World) (p : Option Addr) (n c : Nat) (es : Option (List Int)) : Prop where
  h : (p = none ∧ n = 0 ∧ c = 0 ∧ es = none) ∨ ∃ e l, p = some ⟨e, 0, none⟩ ∧ n = 32768 ∧ es = some l ∧ Pre w e l ∧ l.length = 32768 ∧ Kinds l
/-- The head of what is being made. -/
def Hd (w : World) (r a ac : Nat) (v : Value) : Prop := w.heap[r]? = some (.cells #[.slice (some ⟨a, 0, none⟩) 32768 ac, v, .bool false] 34 (0, 0))
theorem Hd.c1 {w : World} {r a ac : Nat} {v : Value} (h : Hd w r a ac v) : w.cell? ⟨r, 1, none⟩ = some v := by rw [cell_of_row w r 1 _ 34 (0, 0) h]; rfl
theorem Hd.free {w : World} {r a ac : Nat} {v : Value} (h : Hd w r a ac v) (k : Nat) : w.frozen? ⟨r, k, none⟩ = false := frozen_of_row w r k _ 34 h
theorem Hd.put {w : World} {r a ac : Nat} {v : Value} (h : Hd w r a ac v) (u : Value) : Hd (w.setCell ⟨r, 1, none⟩ u) r a ac u := by
  unfold Hd
  rw [heap_setCell_same w r 1 _ 34 _ h]; rfl
/-- Where New stands behind n cells. -/
structure Mid (w0 : World) (r a ac n : Nat) (es : Option (List Int)) (G : List Int) (av : Option Addr) (cv : Nat) (ys : List Int) (w : World) : Prop where
  hd : Hd w r a ac (.slice av n cv)
  own : Own w w0.heap.size av cv ys
  len : ys.length = n
  k : Kinds ys
  at' : ∀ j, j < n → ys.getD j 0 = if inE es G j = true then edK es j else 16
  b : Below w0.heap.size w0 w
theorem Mid.drewN {w0 w : World} {r a ac n : Nat} {es : Option (List Int)} {G : List Int} {av : Option Addr} {cv : Nat} {ys : List Int} (h : Mid w0 r a ac n es G av cv ys w) (m : Nat) : Mid w0 r a ac n es G av cv ys (w.drewN m) :=
  ⟨h.hd, h.own, h.len, h.k, h.at', ⟨h.b.os, h.b.tape, h.b.output, h.b.size, h.b.block⟩⟩
theorem Mid.alloc {w0 w : World} {r a ac n : Nat} {es : Option (List Int)} {G : List Int} {av : Option Addr} {cv : Nat} {ys : List Int} (h : Mid w0 r a ac n es G av cv ys w) (o : Obj) : Mid w0 r a ac n es G av cv ys (w.alloc o) :=
  ⟨(Below.heap_alloc w o r (Array.getElem?_eq_some_iff.1 h.hd).1).trans h.hd, h.own.alloc o, h.len, h.k, h.at', h.b.alloc h.b.size _⟩
/-- One more cell. -/
theorem Mid.more {w0 w w' : World} {r a ac n : Nat} {es : Option (List Int)} {G : List Int} {av : Option Addr} {cv : Nat} {ys : List Int} (h : Mid w0 r a ac n es G av cv ys w) {y : Int} (hy : 0 ≤ y ∧ y ≤ 16) (hv : y = if inE es G n = true then edK es n else 16)
    {a' : Option Addr} {c' : Nat} (ho : Own w' w0.heap.size a' c' (ys ++ [y])) (hg : w.grownBy w' (Value.ownBlock (.slice av n cv))) (hr : w0.heap.size ≤ r) : Hd w' r a ac (.slice av n cv) ∧ Mid w0 r a ac (n + 1) es G a' c' (ys ++ [y]) (w'.setCell ⟨r, 1, none⟩ (.slice a' (n + 1) c')) := by
  have hl := h.len
  have hne : ∀ k, (Value.slice av n cv).ownBlock = some k → w0.heap.size ≤ k ∧ r ≠ k := fun k hk => by
    subst hl
    obtain ⟨h1, cur, h2⟩ := h.own.block k hk
    exact ⟨h1, blk_ne h.hd h2 (by decide)⟩
  have hd' : Hd w' r a ac (.slice av n cv) := (hg.block r (Array.getElem?_eq_some_iff.1 h.hd).1 (fun e => (hne r e.symm).2 rfl)).trans h.hd
  refine ⟨hd', hd'.put _, ?_, by rw [List.length_append, h.len]; rfl, ?_, ?_, ?_⟩
  · refine ownsRow_apart (r := some r) ho ⟨rfl, rfl, rfl, by simp [World.setCell], fun j _ hj => Below.heap_setCell w' ⟨r, 1, none⟩ _ j (fun e => hj (by rw [e]))⟩ fun g hk e => ?_
    obtain ⟨_, cur, h2⟩ := ho.block g hk
    exact blk_ne hd' h2 (by decide) (Option.some.inj e)
  · intro x hx
    rcases List.mem_append.1 hx with q | q
    · exact h.k x q
    · rw [List.mem_singleton.1 q]; exact hy
  · intro j hj
    by_cases e : j < n
    · rw [List.getD_eq_getElem?_getD, List.getElem?_append_left (by omega), ← List.getD_eq_getElem?_getD]
      exact h.at' j e
    · obtain rfl : j = n := by omega
      rw [List.getD_eq_getElem?_getD, List.getElem?_append_right (by omega), h.len, Nat.sub_self]
      exact hv
  · exact (h.b.grown hg h.b.size (fun k hk => (hne k hk).1)).setCell (p := ⟨r, 1, none⟩) hr _
/-- What the document's New answers. -/
def RnewSay (es : Option (List Int)) (G : List Int) (a ac : Nat) (w : World) (e : Ending) (w' : World) : Prop := ∃ (r b bc : Nat) (E : List Int), e = .returned (.pointer (some ⟨r, 0, none⟩)) ∧ IsNew es G E ∧ Rv w.heap.size w' r a ac b bc E G false ∧ Below w.heap.size w w'
theorem val_none (G : List Int) (n : Nat) : (16 : Int) = if inE none G n = true then edK none n else 16 := by rw [if_neg (by simp [inE, isB, edK])]
theorem val_same {l G : List Int} {n : Nat} (hn : n < 32768) (h : l.getD n 0 = G.getD n 0) : (16 : Int) = if inE (some l) G n = true then edK (some l) n else 16 := by
  rw [if_neg]
  unfold inE edK
  simp only [getC_in hn]
  rw [h]
  simp
theorem val_other {l G : List Int} {n : Nat} (hn : n < 32768) (hk : Kinds l) (h : l.getD n 0 ≠ G.getD n 0) : l.getD n 0 = if inE (some l) G n = true then edK (some l) n else 16 := by
  unfold inE edK
  simp only [getC_in hn]
  have b := hk.at n
  by_cases e : l.getD n 0 = 16
  · rw [e, if_neg (by simp [isB])]
  · rw [if_pos]
    rw [Bool.and_eq_true, bne_iff_ne]
    exact ⟨decide_eq_true (by omega), h⟩
set_option maxRecDepth 1000000 in
set_option maxHeartbeats 2000000 in
theorem rnew_c (a ac : Nat) (G : List Int) (p : Option Addr) (n2 c2 : Nat) (es : Option (List Int)) (w : World) (hG : Pre w a G) (gl : G.length = 32768) (gk : Kinds G) (hE : Er w p n2 c2 es) :
    Calls Try.prog 25 #[.slice (some ⟨a, 0, none⟩) 32768 ac, .slice p n2 c2] w (RnewSay es G a ac w) := by
  obtain ⟨Post, hPost⟩ : ∃ Post : Ending → World → Prop, Post = RnewSay es G a ac w := ⟨_, rfl⟩
  rw [← hPost]
  have HP : Hid (∀ w' b bc E, IsNew es G E → Rv w.heap.size w' w.heap.size a ac b bc E G false → Below w.heap.size w w' → Post (.returned (.pointer (some ⟨w.heap.size, 0, none⟩))) w') := fun w' b bc E h1 h2 h3 => by rw [hPost]; exact ⟨_, b, bc, E, rfl, h1, h2, h3⟩
  clear hPost
  have HX : Hid (Pre w a G ∧ Er w p n2 c2 es) := ⟨hG, hE⟩
  have hal := hG.lt
  have HM0 : Hid (Mid w w.heap.size a ac 0 es G none 0 [] (w.alloc (.cells #[.slice (some ⟨a, 0, none⟩) 32768 ac, .slice none 0 0, .bool false] 34))) :=
    ⟨heap_alloc_new w _, (Own.nil w _).alloc _, rfl, fun x hx => absurd hx List.not_mem_nil, fun j hj => absurd hj (Nat.not_lt_zero _), (Below.refl _ _).alloc (Nat.le_refl _) _⟩
  clear hG hE
  go_enter Try.func25, Try.ntmps25
  go_wp2
  generalize w.alloc (.cells #[.slice (some ⟨a, 0, none⟩) 32768 ac, .slice none 0 0, .bool false] 34) = w1 at *
  go_loopw [6] (fun i wr => ∃ (n : Nat) (av : Option Addr) (cv : Nat) (ys : List Int), n ≤ 32768 ∧ i = .int .i64 n ∧ Hid (Mid w w.heap.size a ac n es G av cv ys wr)) (fun i _ => 32768 - (intOf i).toNat)
  case atStart => exact ⟨0, none, 0, [], Nat.zero_le _, rfl, HM0⟩
  case round =>
    obtain ⟨n, av, cv, ys, hn, rfl, HM⟩ := hrel
    clear HM0
    by_cases hlt : n < 32768
    · have hlt' : (n : Int) < 32768 := by omega
      have Hrd : Hid (Pre wr a G) := HX.out.1.on HM.out.b
      have ca := Hrd.out.cell (k := n) (by omega)
      rcases HX.out.2.h with ⟨rfl, rfl, rfl, rfl⟩ | ⟨e, l, rfl, rfl, rfl, hP, hll, hlk⟩
      · clear ca
        go_wp2_with fail
        go_quiet (fail)
        have HM2 : Hid (Mid w w.heap.size a ac n none G av cv ys (wr.drewN nq)) := HM.out.drewN nq
        have Hy : Hid ((0 ≤ (16 : Int) ∧ (16 : Int) ≤ 16) ∧ (16 : Int) = if inE none G n = true then edK none n else 16) := ⟨(by omega), (val_none G n)⟩
        have q0 := HM2.out.hd.c1
        have hs2 : w.heap.size ≤ (wr.drewN nq).heap.size := HM2.out.b.size
        clear HM HX Hrd
        generalize wr.drewN nq = W at *
        go_wp2_with (at_builtin; refine wpList_append_byte rfl (.tmp 39) (.tmp 41) rfl w.heap.size av n cv ys HM2.out.len rfl (HM2.out.alloc _).own ⟨W.heap.size, 0, none⟩ (16 : Int) rfl (cell_one_new _ _ _) (by omega) (by simp; omega) ?_; intro a1 c1 w1 HO1 HG1; obtain ⟨hd1, hm1⟩ := (HM2.out.alloc _).more Hy.out.1 Hy.out.2 HO1.out HG1.out (Nat.le_refl _); have q1 := hd1.c1; have q2 := hd1.free 1; have HM3 : Hid (Mid w w.heap.size a ac (n + 1) none G a1 c1 (ys ++ [(16 : Int)]) (w1.setCell ⟨w.heap.size, 1, none⟩ (.slice a1 (n + 1) c1))) := hm1; clear hd1 hm1 HO1 HG1)
        go_roundw
        case rel => exact ⟨n + 1, a1, c1, _, by omega, by go_num, HM3⟩
        case measure => simp [intOf]; omega
      · have cb := (hP.on HM.out.b).cell (k := n) (by omega)
        by_cases hq : l.getD n 0 = G.getD n 0
        · have Hv : Hid ((16 : Int) = if inE (some l) G n = true then edK (some l) n else 16) := val_same hlt hq
          rw [hq] at cb
          clear hq
          obtain ⟨x, hx⟩ : ∃ x, G.getD n 0 = x := ⟨_, rfl⟩
          rw [hx] at ca cb
          clear hx hP hll
          go_wp2_with fail
          go_quiet (fail)
          have HM2 : Hid (Mid w w.heap.size a ac n (some l) G av cv ys (wr.drewN nq)) := HM.out.drewN nq
          have Hy : Hid ((0 ≤ (16 : Int) ∧ (16 : Int) ≤ 16) ∧ (16 : Int) = if inE (some l) G n = true then edK (some l) n else 16) := ⟨(by omega), Hv.out⟩
          have q0 := HM2.out.hd.c1
          have hs2 : w.heap.size ≤ (wr.drewN nq).heap.size := HM2.out.b.size
          clear HM HX Hrd
          generalize wr.drewN nq = W at *
          go_wp2_with (at_builtin; refine wpList_append_byte rfl (.tmp 39) (.tmp 41) rfl w.heap.size av n cv ys HM2.out.len rfl (HM2.out.alloc _).own ⟨W.heap.size, 0, none⟩ (16 : Int) rfl (cell_one_new _ _ _) (by omega) (by simp; omega) ?_; intro a1 c1 w1 HO1 HG1; obtain ⟨hd1, hm1⟩ := (HM2.out.alloc _).more Hy.out.1 Hy.out.2 HO1.out HG1.out (Nat.le_refl _); have q1 := hd1.c1; have q2 := hd1.free 1; have HM3 : Hid (Mid w w.heap.size a ac (n + 1) (some l) G a1 c1 (ys ++ [(16 : Int)]) (w1.setCell ⟨w.heap.size, 1, none⟩ (.slice a1 (n + 1) c1))) := hm1; clear hd1 hm1 HO1 HG1)
          go_roundw
          case rel => exact ⟨n + 1, a1, c1, _, by omega, by go_num, HM3⟩
          case measure => simp [intOf]; omega
        · have Hv : Hid (l.getD n 0 = if inE (some l) G n = true then edK (some l) n else 16) := val_other hlt hlk hq
          have hb := hlk.at n
          obtain ⟨x, hx⟩ : ∃ x, G.getD n 0 = x := ⟨_, rfl⟩
          obtain ⟨y, hy⟩ : ∃ y, l.getD n 0 = y := ⟨_, rfl⟩
          rw [hx] at ca hq
          rw [hy] at cb hb hq Hv
          have hq' : (y != x) = true := by simp [hq]
          clear hx hy hP hll hq
          go_wp2_with fail
          go_quiet (fail)
          have cb2 : (wr.drewN nq).cell? ⟨e, n, none⟩ = some (.int .u8 y) := cb
          have HM2 : Hid (Mid w w.heap.size a ac n (some l) G av cv ys (wr.drewN nq)) := HM.out.drewN nq
          have Hy : Hid ((0 ≤ y ∧ y ≤ 16) ∧ y = if inE (some l) G n = true then edK (some l) n else 16) := ⟨hb, Hv.out⟩
          have q0 := HM2.out.hd.c1
          have hs2 : w.heap.size ≤ (wr.drewN nq).heap.size := HM2.out.b.size
          clear HM HX Hrd
          generalize wr.drewN nq = W at *
          go_wp2_with (at_builtin; refine wpList_append_byte rfl (.tmp 39) (.tmp 41) rfl w.heap.size av n cv ys HM2.out.len rfl (HM2.out.alloc _).own ⟨W.heap.size, 0, none⟩ y rfl (cell_one_new _ _ _) (by omega) (by simp; omega) ?_; intro a1 c1 w1 HO1 HG1; obtain ⟨hd1, hm1⟩ := (HM2.out.alloc _).more Hy.out.1 Hy.out.2 HO1.out HG1.out (Nat.le_refl _); have q1 := hd1.c1; have q2 := hd1.free 1; have HM3 : Hid (Mid w w.heap.size a ac (n + 1) (some l) G a1 c1 (ys ++ [y]) (w1.setCell ⟨w.heap.size, 1, none⟩ (.slice a1 (n + 1) c1))) := hm1; clear hd1 hm1 HO1 HG1)
          go_roundw
          case rel => exact ⟨n + 1, a1, c1, _, by omega, by go_num, HM3⟩
          case measure => simp [intOf]; omega
    · obtain rfl : n = 32768 := by omega
      have h := HM.out
      obtain ⟨b, rfl, hb, hpre⟩ := h.own.pre (by rw [h.len]; omega)
      have hN : IsNew es G ys := ⟨h.len, h.k, h.at'⟩
      have R := HP.out wr b cv ys hN ⟨h.hd, HX.out.1.on h.b, hpre, hN.sp gl gk, by omega, Nat.le_refl _, hb⟩ h.b
      clear HM h hN hpre HX
      go_wp2
      exact R
end Go.Proofs.Ythanmgejgmhccaa
