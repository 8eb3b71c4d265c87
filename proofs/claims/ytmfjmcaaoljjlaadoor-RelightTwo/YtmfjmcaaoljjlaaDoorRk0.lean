/-
  The landed darken in memory: the cells that were darkened, with what they had.
-/
import Derived.Test.YtmfjmcaaoljjlaaDoorRr2
set_option maxRecDepth 20000
namespace Go.Proofs.YtmfjmcaaoljjlaaDoor
open C Go.RowKit L

theorem nodup_len : ∀ (n : Nat) (d : List Nat), d.Nodup → (∀ x ∈ d, x < n) → d.length ≤ n
  | 0, d, _, h => by
    cases d with
    | nil => exact Nat.le_refl _
    | cons x xs => exact absurd (h x List.mem_cons_self) (by omega)
  | n + 1, d, hd, h => by
    by_cases hn : n ∈ d
    · have h1 := nodup_len n (d.erase n) (hd.erase n) (fun x hx => by
        have h2 := hd.mem_erase_iff.1 hx
        have h3 := h x h2.2
        have h4 := h2.1
        omega)
      rw [List.length_erase_of_mem hn] at h1
      omega
    · have h1 := nodup_len n d hd (fun x hx => by
        have h3 := h x hx
        have : x ≠ n := fun e => hn (e ▸ hx)
        omega)
      omega
/-- A cell and what it had. -/
def shads (ls0 : List Int) (d : List Nat) : List Value := d.flatMap fun x : Nat => [Value.int .i64 (x : Int), .int .i64 (ls0.getD x 0)]
theorem shads_len (ls0 : List Int) : ∀ d, (shads ls0 d).length = d.length * 2
  | [] => rfl
  | x :: d => by
    have := shads_len ls0 d
    unfold shads at this ⊢
    rw [List.flatMap_cons, List.length_append, this]
    simp only [List.length_cons, List.length_nil]
    omega
theorem shads_snoc (ls0 : List Int) (d : List Nat) (x : Nat) : shads ls0 (d ++ [x]) = shads ls0 d ++ [.int .i64 (x : Int), .int .i64 (ls0.getD x 0)] := by
  unfold shads
  rw [List.flatMap_append]
  rfl
theorem shads_at (ls0 : List Int) : ∀ (d : List Nat) (k x : Nat), d[k]? = some x → (shads ls0 d)[k * 2]? = some (.int .i64 (x : Int)) ∧ (shads ls0 d)[k * 2 + 1]? = some (.int .i64 (ls0.getD x 0))
  | [], k, x, h => by simp at h
  | y :: d, 0, x, h => by
    obtain rfl : y = x := by simpa using h
    exact ⟨rfl, rfl⟩
  | y :: d, k + 1, x, h => by
    have h' : d[k]? = some x := by simpa using h
    have ih := shads_at ls0 d k x h'
    have e : shads ls0 (y :: d) = .int .i64 (y : Int) :: .int .i64 (ls0.getD y 0) :: shads ls0 d := rfl
    rw [e, show (k + 1) * 2 = k * 2 + 1 + 1 by omega, show k * 2 + 1 + 1 + 1 = k * 2 + 1 + 1 + 1 from rfl]
    exact ⟨ih.1, ih.2⟩
/-- The list of shadows, gathered by append. -/
def OwnD (w : World) (lo : Nat) (a : Option Addr) (c : Nat) (d : List Nat) (ls0 : List Int) : Prop := w.ownsRow lo 64 2 (.slice a d.length c) d.length (shads ls0 d)
theorem info64 : (Tryd.prog.info? 64).map (fun i => (i.zero, i.size, i.bytes)) = some (some (.agg #[.int .i64 0, .int .i64 0]), 2, 16) := by kernel_rfl
/-- What is neither a list of shadows nor its slice nor a row of bytes lies as it lay. -/
def Kp64 (w w' : World) : Prop := ∀ (b : Nat) (cs : Array Value) (t : TypeId), w.heap[b]? = some (.cells cs t (0, 0)) → t ≠ 64 → t ≠ 62 → t ≠ 5 → w'.heap[b]? = some (.cells cs t (0, 0))
theorem Kp64.ty {w w' : World} (h : Kp64 w w') : Ty77 w w' := fun b cs hb => h b cs 77 hb (by decide) (by decide) (by decide)
theorem Kp64.trans {a b c : World} (h : Kp64 a b) (k : Kp64 b c) : Kp64 a c := fun x cs t q h1 h2 h3 => k x cs t (h x cs t q h1 h2 h3) h1 h2 h3
theorem Kp64.below {w w' : World} (h : Below w.heap.size w w') : Kp64 w w' := fun b _ _ q _ _ _ => (h.block b (Array.getElem?_eq_some_iff.1 q).1).trans q
/-- Memory while cells are darkened; B: the world at its start. -/
structure Dq (e : LE) (B : World) (b5 bx b6 : Nat) (ls0 : List Int) (d : List Nat) (a : Option Addr) (c : Nat) (ls : List Int) (w : World) : Prop where
  own : OwnD w B.heap.size a c d ls0
  h5 : w.heap[b5]? = some (.cells #[.slice a d.length c] 62 (0, 0))
  hb : w.heap[bx]? = some (.cells #[.pointer (some ⟨e.q, e.o, none⟩)] 67 (0, 0))
  h6 : w.heap[b6]? = some (.cells #[.func (.func 37) #[] #[.pointer (some ⟨b5, 0, none⟩), .pointer (some ⟨bx, 0, none⟩)]] 61 (0, 0))
  pl : Pre w e.g 5 ls
  len : ls.length = e.n
  lv : Lv ls
  dm : ∀ i, li ls i = dim (li ls0) d i
  nd : d.Nodup
  dn : ∀ x ∈ d, x < e.n
  gr : B.grownBy w (some e.g)
  n5 : B.heap.size ≤ b5
section
variable {e : LE} {B : World} {b5 bx b6 : Nat} {ls0 : List Int} {d : List Nat} {a : Option Addr} {c : Nat} {ls : List Int} {w w' : World}
theorem Dq.lm (h : Dq e B b5 bx b6 ls0 d a c ls w) (o : LO e) (hM : LM e B) : LM e w := hM.grown o h.gr
theorem Dq.on (h : Dq e B b5 bx b6 ls0 d a c ls w) (hb : Below w.heap.size w w') : Dq e B b5 bx b6 ls0 d a c ls w' :=
  ⟨ownsRow_on h.own hb, (hb.block _ (Array.getElem?_eq_some_iff.1 h.h5).1).trans h.h5, (hb.block _ (Array.getElem?_eq_some_iff.1 h.hb).1).trans h.hb, (hb.block _ (Array.getElem?_eq_some_iff.1 h.h6).1).trans h.h6, h.pl.on hb, h.len, h.lv, h.dm, h.nd, h.dn, grown_below h.gr hb, h.n5⟩
theorem Dq.small (h : Dq e B b5 bx b6 ls0 d a c ls w) : d.length ≤ e.n := nodup_len _ _ h.nd h.dn
theorem ownD_block (h : OwnD w B.heap.size a c d ls0) {g : Nat} (hg : Value.ownBlock (.slice a d.length c) = some g) : B.heap.size ≤ g ∧ ∃ cur, w.heap[g]? = some (.cells cur 64 (0, 0)) := by
  rcases h.2 with ⟨e, _⟩ | ⟨g', cap, cur, hv, hb, hh, _⟩
  · rw [e] at hg; simp [Value.ownBlock] at hg
  · rw [hv] at hg
    obtain rfl : g' = g := by simpa [Value.ownBlock] using hg
    exact ⟨hb, cur, hh⟩
/-- A cell of the list. -/
theorem ownD_at (h : OwnD w B.heap.size a c d ls0) {k x : Nat} (hk : d[k]? = some x) : ∃ g, a = some ⟨g, 0, none⟩ ∧ w.cell? ⟨g, k * 2, none⟩ = some (.int .i64 (x : Int)) ∧ w.cell? ⟨g, k * 2 + 1, none⟩ = some (.int .i64 (ls0.getD x 0)) := by
  have hlt : k < d.length := (List.getElem?_eq_some_iff.1 hk).1
  obtain ⟨s0, s1⟩ := shads_at ls0 d k x hk
  rcases h.2 with ⟨h0, h1⟩ | ⟨g, cap, cur, hv, _, hh, _, _, _, ht⟩
  · omega
  · simp only [Value.slice.injEq, true_and] at hv
    obtain ⟨rfl, rfl⟩ := hv
    refine ⟨g, rfl, ?_, ?_⟩
    · rw [cell_of_row w g _ cur 64 (0, 0) hh]
      rw [← ht, List.getElem?_take, if_pos (by omega)] at s0
      simpa using s0
    · rw [cell_of_row w g _ cur 64 (0, 0) hh]
      rw [← ht, List.getElem?_take, if_pos (by omega)] at s1
      simpa using s1
theorem ownD_dk (h : OwnD w B.heap.size a c d ls0) (hd : d ≠ []) : ∃ g, a = some ⟨g, 0, none⟩ ∧ Dk w g d := by
  rcases h.2 with ⟨h0, h1⟩ | ⟨g, cap, cur, hv, _, hh, _, _, _, ht⟩
  · exact absurd (List.length_eq_zero_iff.1 h1) hd
  · simp only [Value.slice.injEq, true_and] at hv
    obtain ⟨rfl, rfl⟩ := hv
    refine ⟨g, rfl, cur, hh, fun k x hk => ?_⟩
    have hlt : k < d.length := (List.getElem?_eq_some_iff.1 hk).1
    obtain ⟨s0, s1⟩ := shads_at ls0 d k x hk
    rw [← ht, List.getElem?_take, if_pos (by omega)] at s0 s1
    exact ⟨by simpa using s0, _, by simpa using s1⟩
/-- A cell is taken: the new list, the slice laid back, the level gone. -/
theorem Dq.push (h : Dq e B b5 bx b6 ls0 d a c ls w) {i c' : Nat} {a' : Option Addr} {w3 : World} (hi : i < e.n) (hn : i ∉ d) (ho : OwnD w3 B.heap.size a' c' (d ++ [i]) ls0) (hg : w.grownBy w3 (Value.ownBlock (.slice a d.length c))) :
    Dq e B b5 bx b6 ls0 (d ++ [i]) a' c' (ls.set i 0) ((w3.setCell ⟨b5, 0, none⟩ (.slice a' (d ++ [i]).length c')).setCell ⟨e.g, i, none⟩ (.int .u8 0)) ∧ Kp64 w ((w3.setCell ⟨b5, 0, none⟩ (.slice a' (d ++ [i]).length c')).setCell ⟨e.g, i, none⟩ (.int .u8 0)) := by
  have k1 : ∀ {b : Nat} {cs : Array Value} {t : TypeId}, w.heap[b]? = some (.cells cs t (0, 0)) → t ≠ 64 → w3.heap[b]? = some (.cells cs t (0, 0)) := fun {b cs t} hb ht => by
    refine (hg.block b (Array.getElem?_eq_some_iff.1 hb).1 (fun q => ?_)).trans hb
    obtain ⟨_, cu, hcu⟩ := ownD_block h.own q.symm
    rw [hb] at hcu
    cases hcu
    exact ht rfl
  have h5 := k1 h.h5 (by decide)
  obtain ⟨cu, hcu, hr⟩ := h.pl
  have hp3 : Pre w3 e.g 5 ls := ⟨cu, k1 hcu (by decide), hr⟩
  have ne1 : e.g ≠ b5 := fun q => by rw [q, h.h5] at hcu; cases hcu
  have k2 : ∀ {b : Nat} {cs : Array Value} {t : TypeId}, w3.heap[b]? = some (.cells cs t (0, 0)) → t ≠ 62 → t ≠ 5 → ((w3.setCell ⟨b5, 0, none⟩ (.slice a' (d ++ [i]).length c')).setCell ⟨e.g, i, none⟩ (.int .u8 0)).heap[b]? = some (.cells cs t (0, 0)) := fun {b cs t} hb ht ht5 => by
    have n1 : b ≠ b5 := fun q => by rw [q, h5] at hb; cases hb; exact ht rfl
    have n2 : b ≠ e.g := fun q => by rw [q, k1 hcu (by decide)] at hb; cases hb; exact ht5 rfl
    exact (Below.heap_setCell _ ⟨e.g, i, none⟩ _ b n2).trans ((Below.heap_setCell w3 ⟨b5, 0, none⟩ _ b n1).trans hb)
  have hil : i < ls.length := by rw [h.len]; exact hi
  have hpre : Pre (w3.setCell ⟨b5, 0, none⟩ (.slice a' (d ++ [i]).length c')) e.g 5 ls := by
    obtain ⟨cu3, hcu3, hr3⟩ := hp3
    exact ⟨cu3, (Below.heap_setCell w3 ⟨b5, 0, none⟩ _ e.g ne1).trans hcu3, hr3⟩
  refine ⟨⟨?_, ?_, k2 (k1 h.hb (by decide)) (by decide) (by decide), k2 (k1 h.h6 (by decide)) (by decide) (by decide), hpre.set i 0, by rw [List.length_set]; exact h.len, ?_, fun j => ?_, ?_, fun x hx => ?_, ?_, h.n5⟩, ?_⟩
  · have g1 : w3.grownBy (w3.setCell ⟨b5, 0, none⟩ (.slice a' (d ++ [i]).length c')) (some b5) := ⟨rfl, rfl, rfl, by simp [World.setCell], fun j _ hj => Below.heap_setCell w3 ⟨b5, 0, none⟩ _ j (fun e => hj (by rw [e]))⟩
    have o1 : OwnD (w3.setCell ⟨b5, 0, none⟩ (.slice a' (d ++ [i]).length c')) B.heap.size a' c' (d ++ [i]) ls0 := ownsRow_apart (r := some b5) ho g1 (fun g hgg q => by
      obtain ⟨_, cc, hcc⟩ := ownD_block ho hgg
      have q : b5 = g := by injection q
      rw [← q, h5] at hcc
      cases hcc)
    have g2 : ∀ W : World, W.grownBy (W.setCell ⟨e.g, i, none⟩ (.int .u8 0)) (some e.g) := fun W => ⟨rfl, rfl, rfl, by simp [World.setCell], fun j _ hj => Below.heap_setCell W ⟨e.g, i, none⟩ _ j (fun e' => hj (by rw [e']))⟩
    refine ownsRow_apart (r := some e.g) o1 (g2 _) (fun g hgg q => ?_)
    obtain ⟨_, cc, hcc⟩ := ownD_block o1 hgg
    have q : e.g = g := by injection q
    obtain ⟨cp, hcp, _⟩ := hpre
    rw [← q, hcp] at hcc
    cases hcc
  · exact (Below.heap_setCell _ ⟨e.g, i, none⟩ _ b5 (Ne.symm ne1)).trans (heap_setCell_same w3 b5 0 _ 62 _ h5)
  · have := h.lv.set (v := 0) hil (by omega)
    simpa using this
  · have e1 := li_set (ls := ls) (n := i) (v := 0) hil
    have e2 : li (ls.set i 0) = upd (li ls) i 0 := by simpa using e1
    rw [e2, dim_more]
    unfold upd
    by_cases q : j = i
    · rw [if_pos q, if_pos q]
    · rw [if_neg q, if_neg q]; exact h.dm j
  · rw [List.nodup_append]
    refine ⟨h.nd, by simp, fun x hx y hy => ?_⟩
    rw [List.mem_singleton.1 hy]
    exact fun q => hn (q ▸ hx)
  · rcases List.mem_append.1 hx with hx | hx
    · exact h.dn x hx
    · rw [List.mem_singleton.1 hx]; exact hi
  · refine ⟨hg.os.trans h.gr.os, hg.tape.trans h.gr.tape, hg.output.trans h.gr.output, ?_, fun j hj hne => ?_⟩
    · have := h.gr.size
      have := hg.size
      simp [World.setCell]
      omega
    · have n5 := h.n5
      refine (Below.heap_setCell _ ⟨e.g, i, none⟩ _ j (fun q => hne (by have q : j = e.g := q; rw [q]))).trans ((Below.heap_setCell w3 ⟨b5, 0, none⟩ _ j (by show j ≠ b5; omega)).trans ((hg.block j (Nat.lt_of_lt_of_le hj h.gr.size) (fun q => ?_)).trans (h.gr.block j hj hne)))
      have := (ownD_block h.own q.symm).1
      omega
  · intro b cs t hb h1 h2 h3
    exact k2 (k1 hb h1) h2 h3
end
end Go.Proofs.YtmfjmcaaoljjlaaDoor
