/-
  Bytes that a call itself has gathered by append, and what one more append does to them: laws for the walks of this seat.
-/
import Derived.Test.YtlllmmceoeihkaaGreatKPuts
import Derived.Laws.AppendOwnNone
namespace Go.Proofs.YtlllmmceoeihkaaGreat.K
open Go.RowKit
def Own (w : World) (B : Nat) (a : Option Addr) (c : Nat) (ys : List Int) : Prop := w.ownsRow B 5 1 (.slice a ys.length c) ys.length (ys.map (Value.int .u8))
theorem Own.nil (w : World) (B : Nat) : Own w B none 0 [] := World.ownsRow_nil w B 5 1
theorem Own.parts {w : World} {B : Nat} {a : Option Addr} {c : Nat} {ys : List Int} (h : Own w B a c ys) :
  (a = none ∧ c = 0 ∧ ys = []) ∨ ∃ g, a = some ⟨g, 0, none⟩ ∧ B ≤ g ∧ g < w.heap.size ∧ (∀ k (hk : k < ys.length), w.cell? ⟨g, k, none⟩ = some (.int .u8 ys[k])) ∧ (∀ k, w.frozen? ⟨g, k, none⟩ = false) ∧ ys.length ≤ c := by
 rcases h.2 with ⟨hv, hn⟩ | ⟨g, cap, cur, hv, hg, hh, hc, _, hs, ht⟩
 ·simp only [Value.slice.injEq] at hv
  exact .inl ⟨hv.1, hv.2.2, List.eq_nil_of_length_eq_zero hn⟩
 ·simp only [Value.slice.injEq] at hv
  obtain ⟨rfl, _, rfl⟩ := hv
  refine .inr ⟨g, rfl, hg, (Array.getElem?_eq_some_iff.1 hh).1, fun k hk => ?_, fun k => frozen_of_row w g k _ 5 hh, hc⟩
  have := World.ownsRow.cellAt h k (by simpa using hk)
  rw [this]
  simp [hk]
theorem Own.bytes {w : World} {B : Nat} {a : Option Addr} {c : Nat} {ys : List Int} (h : Own w B a c ys) (hf : ∀ z ∈ ys, 0 ≤ z ∧ z ≤ 255) (len : Nat) (hl : ys.length = len) : Bytes w a len ys := by
 refine ⟨hl, ?_, hf⟩
 rcases h.parts with ⟨_, _, e⟩ | ⟨g, e, _, _, hc, _⟩
 ·exact .inl e
 ·exact .inr ⟨g, 0, e, fun k hk => by rw [Nat.zero_add]; exact hc k hk⟩
theorem Own.later {w w' : World} {B : Nat} {a : Option Addr} {c : Nat} {ys : List Int} (h : Own w B a c ys) (hb : Below w.heap.size w w') : Own w' B a c ys := by
 refine ⟨h.1, ?_⟩
 rcases h.2 with h2 | ⟨g, cap, cur, hv, hg, hh, r⟩
 ·exact .inl h2
 ·exact .inr ⟨g, cap, cur, hv, hg, by rw [hb.block g (Array.getElem?_eq_some_iff.1 hh).1]; exact hh, r⟩
theorem Own.base {w : World} {B B' : Nat} {a : Option Addr} {c : Nat} {ys : List Int} (h : Own w B a c ys) (hB : B' ≤ B) : Own w B' a c ys := by
 refine ⟨h.1, ?_⟩
 rcases h.2 with h2 | ⟨g, cap, cur, hv, hg, r⟩
 ·exact .inl h2
 ·exact .inr ⟨g, cap, cur, hv, by omega, r⟩
theorem wpList_append_bytes {w : World} {ops : Array Oper} {rest : List Oper} {o : Oper} {a : Act} {Q : Exit → Act → World → Prop} (hgd : o.guard = none) (s x : Operand)
  (ho : o.op = .call { callee := .builtin .append, args := #[s, x], argTypes := #[61, 61] }) (B : Nat) (av : Option Addr) (n cv : Nat) (ys : List Int) (hn : ys.length = n) (hs : a.eval s = .slice av n cv) (hown : Own w B av cv ys)
  (sp : Option Addr) (m sc : Nat) (xs : List Int) (hx : a.eval x = .slice sp m sc) (hX : Bytes w sp m xs) (hnil : sp = none → sc = 0) (hle : n + m ≤ 140737488355328) (w0 : World) (hb : Below B w0 w) (hB : B ≤ w.heap.size)
  (h : ∀ a' c' w', Hid (Own w' B a' c' (ys ++ xs)) → Below B w0 w' → B ≤ w'.heap.size → wpList Tryz.prog ops Q rest (a.put o.dst (.slice a' (n + m) c')) w') : wpList Tryz.prog ops Q (o :: rest) a w := by
 have hm := hX.n
 obtain ⟨i, hi, hz0, hz1, hz2⟩ := info_parts Tryz.info5
 subst hn
 cases sp with
 | none =>
   obtain rfl := hnil rfl
   have hxs : xs = [] := by
    rcases hX.cells with e | ⟨b, off, e, _⟩
    ·exact e
    ·cases e
   subst hxs
   simp at hm
   subst hm
   refine wpList_append_own_none hgd s x 61 ho B 5 i 1 Tryz.underlying61 hi _ _ _ hs hown hx ?_
   have := h av cv w (show Own _ _ _ _ _ by simpa using hown) hb hB
   simpa using this
 | some ad =>
   refine wpList_append_own w hgd s x 61 ho B 5 i (.int .u8 0) 1 1 Tryz.underlying61 hi hz0 hz1 hz2 rfl (by decide) _ _ _ hs hown ad m sc (xs.map (Value.int .u8)) hx (by simpa using hm) ?_ (ints_oneCell _ _) (by unfold maxLen; omega) (by omega) hB ?_
   ·intro j u hj
    obtain ⟨hj', hv⟩ := List.getElem?_eq_some_iff.1 hj
    rw [List.length_map] at hj'
    rcases hX.cells with e | ⟨b, off, e, hc⟩
    ·subst e; simp at hj'
    ·obtain rfl := Option.some.inj e
     rw [Addr.add_lit, hc j hj', ← hv]
     simp
   ·intro v' w' h1 h2 _
    have hb' : Below B w0 w' := hb.grown h2 hB (fun k hk => (hown.lt k hk).1)
    have hB' : B ≤ w'.heap.size := Nat.le_trans hB h2.size
    have e : ∃ a' c', v' = .slice a' (ys.length + m) c' := by
     rcases h1.2 with ⟨hv, hn⟩ | ⟨g, cap, _, hv, _⟩
     ·exact ⟨none, 0, by rw [hv, hn]⟩
     ·exact ⟨_, _, hv⟩
    obtain ⟨a', c', rfl⟩ := e
    refine h a' c' w' ?_ hb' hB'
    show Own _ _ _ _ _
    unfold Own
    rw [List.length_append, hm, List.map_append]
    exact h1
theorem oneByte (w : World) (z : Int) (h : 0 ≤ z ∧ z ≤ 255) : Bytes (w.alloc (.cells #[.int .u8 z] 5)) (some ⟨w.heap.size, 0, none⟩) 1 [z] := by
 have hr : Row (w.alloc (.cells #[.int .u8 z] 5)) w.heap.size [z] := heap_alloc_new w _
 exact hr.bytes (by simpa using h) 1 rfl
theorem belowAlloc {B : Nat} {w0 w : World} (h : Below B w0 w) (hB : B ≤ w.heap.size) (o : Obj) : Below B w0 (w.alloc o) ∧ B ≤ (w.alloc o).heap.size := by
 refine ⟨h.alloc hB o, ?_⟩
 simp
 omega
end Go.Proofs.YtlllmmceoeihkaaGreat.K
