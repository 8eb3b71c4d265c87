/-
  What is asked of a space, as a structure: the laws are walked over it.
-/
import Derived.Test.YtffhnecdmdmmkaaSroom
set_option maxRecDepth 20000
namespace Go.Proofs.Ytffhnecdmdmmkaa
open Go.RowKit

theorem ownsRow_same {w w' : World} {B : Nat} {e : TypeId} {sz n c : Nat} {a : Option Addr} {xs : List Value} (h : w.ownsRow B e sz (.slice a n c) n xs) (he : ∀ b, a = some ⟨b, 0, none⟩ → w'.heap[b]? = w.heap[b]?) : w'.ownsRow B e sz (.slice a n c) n xs := by
  refine ⟨h.1, ?_⟩
  rcases h.2 with h2 | ⟨b, cap, cur, hv, hb, hh, r⟩
  · exact Or.inl h2
  · have ea : a = some ⟨b, 0, none⟩ := by simp only [Value.slice.injEq] at hv; exact hv.1
    exact Or.inr ⟨b, cap, cur, hv, hb, (he b ea).trans hh, r⟩
/-- A footprint, grown by what is new. -/
def Gr (F : Nat → Prop) (w w' : World) : Nat → Prop := fun k => F k ∨ (w.heap.size ≤ k ∧ k < w'.heap.size)
theorem Gr.trans {F : Nat → Prop} {a b c : World} (hab : a.heap.size ≤ b.heap.size) (hbc : b.heap.size ≤ c.heap.size) : ∀ k, Gr (Gr F a b) b c k → Gr F a c k := fun k hk => by
  rcases hk with (h | h) | h
  · exact Or.inl h
  · exact Or.inr ⟨h.1, by omega⟩
  · exact Or.inr ⟨by omega, h.2⟩
theorem Gr.lt {F : Nat → Prop} {a b : World} (hF : ∀ k, F k → k < a.heap.size) (hs : a.heap.size ≤ b.heap.size) : ∀ k, Gr F a b k → k < b.heap.size := fun k hk => by
  rcases hk with h | h
  · have := hF k h; omega
  · exact h.2
theorem Chg.gr {F : Nat → Prop} {a b c : World} (h : Chg F a b) (k : Chg (Gr F a b) b c) : Chg F a c := h.trans k (fun _ hj => hj.imp id (fun h => h.1))
def badNew (n h : Int) : Prop := h < 0 ∨ n < h ∨ 4096 < n
structure SSpec where
  /-- A space in memory, within F. -/
  SP : (Nat → Prop) → World → Nat → Nat → List Bool → Prop
  sp_keep : ∀ {F w w' g h T}, SP F w g h T → (∀ k, F k → w'.heap[k]? = w.heap[k]?) → SP F w' g h T
  sp_more : ∀ {F F' : Nat → Prop} {w g h T}, SP F w g h T → (∀ k, F k → F' k) → SP F' w g h T
  sp_le : ∀ {F w g h T}, SP F w g h T → h ≤ T.length ∧ T.length ≤ 4096
  new_ : ∀ (n h : Int) (w : World), I64 n → I64 h → Calls Try.prog 9 #[.int .i64 n, .int .i64 h] w fun e w' => Below w.heap.size w w' ∧ ((badNew n h ∧ e = .returned (.tuple #[.pointer none, .int .i64 1])) ∨ (¬ badNew n h ∧ ∃ g, e = .returned (.tuple #[.pointer (some ⟨g, 0, none⟩), .int .i64 0]) ∧ SP (fun k => w.heap.size ≤ k ∧ k < w'.heap.size) w' g h.toNat (List.replicate n.toNat false)))
  mark_ : ∀ (F : Nat → Prop) (g h : Nat) (T : List Bool) (f m : Int) (w : World), I64 f → I64 m → SP F w g h T → (∀ k, F k → k < w.heap.size) →
    Calls Try.prog 16 #[.pointer (some ⟨g, 0, none⟩), .agg #[.int .i64 f, .int .i64 m]] w fun e w' => e = .returned (.int .i64 (erS h T f m false)) ∧ Chg F w w' ∧ SP (Gr F w w') w' g h (doS h T f m false true)
  free_ : ∀ (F : Nat → Prop) (g h : Nat) (T : List Bool) (f m : Int) (w : World), I64 f → I64 m → SP F w g h T → (∀ k, F k → k < w.heap.size) →
    Calls Try.prog 18 #[.pointer (some ⟨g, 0, none⟩), .agg #[.int .i64 f, .int .i64 m]] w fun e w' => e = .returned (.int .i64 (erS h T f m true)) ∧ Chg F w w' ∧ SP (Gr F w w') w' g h (doS h T f m true false)
  take_ : ∀ (F : Nat → Prop) (g h : Nat) (T : List Bool) (n : Int) (w : World), I64 n → SP F w g h T → (∀ k, F k → k < w.heap.size) →
    Calls Try.prog 14 #[.pointer (some ⟨g, 0, none⟩), .int .i64 n] w fun e w' => e = .returned (.tuple #[.int .i64 (tkS h T n).1, .int .i64 (tkS h T n).2.1]) ∧ Chg F w w' ∧ SP (Gr F w w') w' g h (tkS h T n).2.2
  room_ : ∀ (F : Nat → Prop) (g h : Nat) (T : List Bool) (w : World), SP F w g h T → (∀ k, F k → k < w.heap.size) →
    Calls Try.prog 11 #[.pointer (some ⟨g, 0, none⟩)] w fun e w' => e = .returned (.int .i64 (roomS (spansS h T) : Int)) ∧ Chg F w w' ∧ SP (Gr F w w') w' g h T
  large_ : ∀ (F : Nat → Prop) (g h : Nat) (T : List Bool) (w : World), SP F w g h T → (∀ k, F k → k < w.heap.size) →
    Calls Try.prog 13 #[.pointer (some ⟨g, 0, none⟩)] w fun e w' => e = .returned (.int .i64 (largeS (spansS h T) : Int)) ∧ Chg F w w' ∧ SP (Gr F w w') w' g h T
  spans_ : ∀ (F : Nat → Prop) (g h : Nat) (T : List Bool) (w : World), SP F w g h T → (∀ k, F k → k < w.heap.size) →
    Calls Try.prog 20 #[.pointer (some ⟨g, 0, none⟩)] w fun e w' => ∃ (F' : Nat → Prop) (a : Option Addr) (c : Nat), e = .returned (.slice a (spansS h T).length c) ∧ Chg F w w' ∧ SP F' w' g h T ∧ (∀ k, F' k → Gr F w w' k) ∧ (∀ gb, a = some ⟨gb, 0, none⟩ → ¬ F' gb) ∧ OwnSp w' w.heap.size a c (spansS h T)
/-- A space on the way: all of it is the call's own (from w0 on), within F. -/
structure Sk (J : SSpec) (F : Nat → Prop) (w0 w : World) (g h : Nat) (T : List Bool) : Prop where
  sp : J.SP F w g h T
  lt : ∀ k, F k → w0.heap.size ≤ k ∧ k < w.heap.size
  below : Below w0.heap.size w0 w
/-- What was there and is not F's is as it was, and is not F's behind it. -/
structure Stp (F : Nat → Prop) (w : World) (F' : Nat → Prop) (w' : World) : Prop where
  size : w.heap.size ≤ w'.heap.size
  block : ∀ b, b < w.heap.size → ¬ F b → w'.heap[b]? = w.heap[b]? ∧ ¬ F' b
theorem Stp.trans {F F' F'' : Nat → Prop} {a b c : World} (h : Stp F a F' b) (k : Stp F' b F'' c) : Stp F a F'' c :=
  ⟨Nat.le_trans h.size k.size, fun x hx hf => by
    have h1 := h.block x hx hf
    have h2 := k.block x (Nat.lt_of_lt_of_le hx h.size) h1.2
    exact ⟨h2.1.trans h1.1, h2.2⟩⟩
theorem Stp.below {F : Nat → Prop} {w w' : World} (hb : Below w.heap.size w w') : Stp F w F w' := ⟨hb.size, fun b hb' hf => ⟨hb.block b hb', hf⟩⟩
theorem Sk.on {J : SSpec} {F : Nat → Prop} {w0 w w' : World} {g h : Nat} {T : List Bool} (H : Sk J F w0 w g h T) (hb : Below w.heap.size w w') : Sk J F w0 w' g h T := by
  have hs := hb.size
  exact ⟨J.sp_keep H.sp (fun k hk => hb.block k (H.lt k hk).2), fun k hk => ⟨(H.lt k hk).1, by have := (H.lt k hk).2; omega⟩, H.below.trans (hb.mono H.below.size)⟩
/-- Another block of the call's own is another one. -/
theorem Sk.chg {J : SSpec} {F : Nat → Prop} {w0 w w' : World} {g h tb : Nat} {T : List Bool} (H : Sk J F w0 w g h T) (hC : Chg (fun k => k = tb) w w') (htb : ¬ F tb) (h0 : w0.heap.size ≤ tb) : Sk J F w0 w' g h T := by
  have hs := hC.size
  exact ⟨J.sp_keep H.sp (fun k hk => hC.block k (H.lt k hk).2 (fun e => htb (e ▸ hk))), fun k hk => ⟨(H.lt k hk).1, by have := (H.lt k hk).2; omega⟩, H.below.trans (hC.below (fun k hk => by rw [hk]; exact h0) H.below.size)⟩
theorem Sk.next {J : SSpec} {F F' : Nat → Prop} {w0 w w' : World} {g h : Nat} {T T' : List Bool} (H : Sk J F w0 w g h T) (hC : Chg F w w') (hS : J.SP F' w' g h T') (hF : ∀ k, F' k → Gr F w w' k) : Sk J F' w0 w' g h T' ∧ Stp F w F' w' := by
  have hs := hC.size
  have hs0 := H.below.size
  refine ⟨⟨hS, fun k hk => ?_, H.below.trans (hC.below (fun k hk => (H.lt k hk).1) hs0)⟩, hs, fun b hb hf => ⟨hC.block b hb hf, fun hk => ?_⟩⟩
  · rcases hF k hk with hk | hk
    · have := H.lt k hk; exact ⟨this.1, by omega⟩
    · exact ⟨by omega, hk.2⟩
  · rcases hF b hk with hk | hk
    · exact hf hk
    · omega
theorem OwnSp.stp {F F' : Nat → Prop} {w w' : World} {lo : Nat} {a : Option Addr} {c : Nat} {l : List Sp} (h : OwnSp w lo a c l) (hS : Stp F w F' w') (hf : ∀ gb, a = some ⟨gb, 0, none⟩ → ¬ F gb) : OwnSp w' lo a c l ∧ ∀ gb, a = some ⟨gb, 0, none⟩ → ¬ F' gb := by
  have hlt : ∀ gb, a = some ⟨gb, 0, none⟩ → gb < w.heap.size := fun gb e => (World.ownsRow.lt h gb (by rw [e]; rfl)).2
  refine ⟨ownsRow_same h (fun b e => (hS.block b (hlt b e) (hf b e)).1), fun gb e => (hS.block gb (hlt gb e) (hf gb e)).2⟩
theorem RS.stp {F F' : Nat → Prop} {w w' : World} {g tb h : Nat} {T : List Bool} (H : RS w g tb h T) (hS : Stp F w F' w') (hg : ¬ F g) (ht : ¬ F tb) : RS w' g tb h T ∧ ¬ F' g ∧ ¬ F' tb := by
  have h1 := hS.block g (Array.getElem?_eq_some_iff.1 H.head).1 hg
  have h2 := hS.block tb (Array.getElem?_eq_some_iff.1 H.row).1 ht
  exact ⟨⟨h1.1.trans H.head, h2.1.trans H.row, H.ne, H.le, H.few⟩, h1.2, h2.2⟩
section
variable {J : SSpec} {F : Nat → Prop} {w0 w : World} {g h : Nat} {T : List Bool}
theorem smark (H : Sk J F w0 w g h T) (f m : Int) (hf : I64 f) (hm : I64 m) : Calls Try.prog 16 #[.pointer (some ⟨g, 0, none⟩), .agg #[.int .i64 f, .int .i64 m]] w fun e w' => e = .returned (.int .i64 (erS h T f m false)) ∧ ∃ F', Sk J F' w0 w' g h (doS h T f m false true) ∧ Stp F w F' w' := by
  refine (J.mark_ _ g h T f m w hf hm H.sp (fun k hk => (H.lt k hk).2)).mono ?_
  rintro e w' ⟨he, hC, hS⟩
  exact ⟨he, _, H.next hC hS (fun _ h => h)⟩
theorem sfree (H : Sk J F w0 w g h T) (f m : Int) (hf : I64 f) (hm : I64 m) : Calls Try.prog 18 #[.pointer (some ⟨g, 0, none⟩), .agg #[.int .i64 f, .int .i64 m]] w fun e w' => e = .returned (.int .i64 (erS h T f m true)) ∧ ∃ F', Sk J F' w0 w' g h (doS h T f m true false) ∧ Stp F w F' w' := by
  refine (J.free_ _ g h T f m w hf hm H.sp (fun k hk => (H.lt k hk).2)).mono ?_
  rintro e w' ⟨he, hC, hS⟩
  exact ⟨he, _, H.next hC hS (fun _ h => h)⟩
theorem stake (H : Sk J F w0 w g h T) (n : Int) (hn : I64 n) : Calls Try.prog 14 #[.pointer (some ⟨g, 0, none⟩), .int .i64 n] w fun e w' => e = .returned (.tuple #[.int .i64 (tkS h T n).1, .int .i64 (tkS h T n).2.1]) ∧ ∃ F', Sk J F' w0 w' g h (tkS h T n).2.2 ∧ Stp F w F' w' := by
  refine (J.take_ _ g h T n w hn H.sp (fun k hk => (H.lt k hk).2)).mono ?_
  rintro e w' ⟨he, hC, hS⟩
  exact ⟨he, _, H.next hC hS (fun _ h => h)⟩
theorem sroom (H : Sk J F w0 w g h T) : Calls Try.prog 11 #[.pointer (some ⟨g, 0, none⟩)] w fun e w' => e = .returned (.int .i64 (roomS (spansS h T) : Int)) ∧ ∃ F', Sk J F' w0 w' g h T ∧ Stp F w F' w' := by
  refine (J.room_ _ g h T w H.sp (fun k hk => (H.lt k hk).2)).mono ?_
  rintro e w' ⟨he, hC, hS⟩
  exact ⟨he, _, H.next hC hS (fun _ h => h)⟩
theorem slarge (H : Sk J F w0 w g h T) : Calls Try.prog 13 #[.pointer (some ⟨g, 0, none⟩)] w fun e w' => e = .returned (.int .i64 (largeS (spansS h T) : Int)) ∧ ∃ F', Sk J F' w0 w' g h T ∧ Stp F w F' w' := by
  refine (J.large_ _ g h T w H.sp (fun k hk => (H.lt k hk).2)).mono ?_
  rintro e w' ⟨he, hC, hS⟩
  exact ⟨he, _, H.next hC hS (fun _ h => h)⟩
theorem sspans (H : Sk J F w0 w g h T) : Calls Try.prog 20 #[.pointer (some ⟨g, 0, none⟩)] w fun e w' => ∃ F' a c, e = .returned (.slice a (spansS h T).length c) ∧ Sk J F' w0 w' g h T ∧ Stp F w F' w' ∧ OwnSp w' w.heap.size a c (spansS h T) ∧ ∀ gb, a = some ⟨gb, 0, none⟩ → ¬ F' gb := by
  refine (J.spans_ _ g h T w H.sp (fun k hk => (H.lt k hk).2)).mono ?_
  rintro e w' ⟨F', a, c, he, hC, hS, hF, hgb, hO⟩
  have := H.next hC hS hF
  exact ⟨F', a, c, he, this.1, this.2, hO, hgb⟩
theorem snew (J : SSpec) (n h : Int) (w : World) (hn : I64 n) (hh : I64 h) (hb : ¬ badNew n h) : Calls Try.prog 9 #[.int .i64 n, .int .i64 h] w fun e w' => ∃ g F, e = .returned (.tuple #[.pointer (some ⟨g, 0, none⟩), .int .i64 0]) ∧ Sk J F w w' g h.toNat (List.replicate n.toNat false) := by
  refine (J.new_ n h w hn hh).mono ?_
  rintro e w' ⟨hbw, ⟨h1, _⟩ | ⟨_, g, he, hS⟩⟩
  · exact absurd h1 hb
  · exact ⟨g, _, he, hS, fun k hk => hk, hbw⟩
end
end Go.Proofs.Ytffhnecdmdmmkaa
