/-
  What a field of the program answers in a law; two fields.
-/
import Derived.Test.YtmfjmcaaoljjlaaDoorWs
set_option maxRecDepth 20000
namespace Go.Proofs.YtmfjmcaaoljjlaaDoor
open C Go.RowKit L

section
variable {J : JSpec} {w0 : World} {W D T : Nat} {bs : List Int} {p : Nat} {F : Nat → Prop} {w : World}
/-- A row that the program handed out, and the field behind it. -/
structure Told1 (J : JSpec) (w0 : World) (W D T : Nat) (bs : List Int) (p : Nat) (F : Nat → Prop) (w : World) (l : List Int) (g : Nat) (F' : Nat → Prop) (w' : World) : Prop where
  pre : Pre w' g 5 l
  a : J.A W D T bs p F' w'
  o : OnlyF F w w'
  s : ∀ j, F' j → F j ∨ w.heap.size ≤ j
  fj : Fj J w0 W D T bs p F' w'
theorem Fj.kinds (h : Fj J w0 W D T bs p F w) (hb : Bx W D T) (hk : Kinds bs) (hl : bs.length = W * D * T) {n : Nat} (hn : n = W * D * T) : Calls Tryd.prog 17 #[.pointer (some ⟨p, 0, none⟩)] w fun e w' => ∃ g c F', e = .returned (.slice (some ⟨g, 0, none⟩) n c) ∧ Told1 J w0 W D T bs p F w bs g F' w' :=
  (J.kinds W D T bs p F w hb h.g h.a hk hl).mono (by
    subst hn
    rintro e w' ⟨g, c, F', he, hp, _, _, ha, ho, hs⟩
    exact ⟨g, c, F', he, hp, ha, ho, hs, h.step ha ho hs⟩)
theorem Fj.sky (h : Fj J w0 W D T bs p F w) (hb : Bx W D T) (hk : Kinds bs) (hl : bs.length = W * D * T) {n : Nat} (hn : n = W * D * T) : Calls Tryd.prog 12 #[.pointer (some ⟨p, 0, none⟩)] w fun e w' => ∃ g c F' l, e = .returned (.slice (some ⟨g, 0, none⟩) n c) ∧ LightOf (L.skyS W D T (fun j => bs.getD j 0) hb.w0 hb.d0) n l ∧ Told1 J w0 W D T bs p F w l g F' w' :=
  (J.sky W D T bs p F w hb h.g h.a hk hl).mono (by
    subst hn
    rintro e w' ⟨g, c, F', l, he, hp, hl', _, _, ha, ho, hs⟩
    exact ⟨g, c, F', l, he, hl', hp, ha, ho, hs, h.step ha ho hs⟩)
theorem Fj.lamp (h : Fj J w0 W D T bs p F w) (hb : Bx W D T) (hk : Kinds bs) (hl : bs.length = W * D * T) {n : Nat} (hn : n = W * D * T) : Calls Tryd.prog 16 #[.pointer (some ⟨p, 0, none⟩)] w fun e w' => ∃ g c F' l, e = .returned (.slice (some ⟨g, 0, none⟩) n c) ∧ LightOf (L.lampS W D T (fun j => bs.getD j 0) hb.w0 hb.d0) n l ∧ Told1 J w0 W D T bs p F w l g F' w' :=
  (J.lamp W D T bs p F w hb h.g h.a hk hl).mono (by
    subst hn
    rintro e w' ⟨g, c, F', l, he, hp, hl', _, _, ha, ho, hs⟩
    exact ⟨g, c, F', l, he, hl', hp, ha, ho, hs, h.step ha ho hs⟩)
/-- What a Set makes of the cells. -/
def opS (n : Nat) (bs : List Int) (i k : Int) : List Int := if 0 ≤ i ∧ i < (n : Int) ∧ 0 ≤ k ∧ k ≤ 16 then bs.set i.toNat k else bs
theorem opS_len (n : Nat) (bs : List Int) (i k : Int) : (opS n bs i k).length = bs.length := by
  unfold opS
  split
  · rw [List.length_set]
  · rfl
theorem opS_kinds {n : Nat} {bs : List Int} (h : Kinds bs) (i k : Int) : Kinds (opS n bs i k) := by
  unfold opS
  split
  · rename_i q
    intro x hx
    rcases List.mem_or_eq_of_mem_set hx with r | r
    · exact h x r
    · rw [r]; exact ⟨q.2.2.1, q.2.2.2⟩
  · exact h
theorem Fj.op (h : Fj J w0 W D T bs p F w) (hb : Bx W D T) (hk : Kinds bs) (hl : bs.length = W * D * T) (i k : Int) : Calls Tryd.prog 14 #[.pointer (some ⟨p, 0, none⟩), .int .i64 i, .int .i64 k] w fun e w' => ∃ (rc : Int) (F' : Nat → Prop), e = .returned (.int .i64 rc) ∧ (0 ≤ i ∧ i < ((W * D * T : Nat) : Int) ∧ 0 ≤ k ∧ k ≤ 16 → rc = 0) ∧ J.A W D T (opS (W * D * T) bs i k) p F' w' ∧ OnlyF F w w' ∧ (∀ j, F' j → F j ∨ w.heap.size ≤ j) ∧ Fj J w0 W D T (opS (W * D * T) bs i k) p F' w' :=
  (J.set W D T bs p F i k w hb h.g h.a hk hl).mono (by
    rintro e w' (⟨h1, h2, F', ha, ho, hs⟩ | ⟨h1, h2, h3, F', ha, ho, hs⟩ | ⟨I, rfl, h2, h3, h4, F', ha, ho, hs⟩)
    · have e1 : opS (W * D * T) bs i k = bs := if_neg (fun q => h1 ⟨q.1, q.2.1⟩)
      rw [e1]
      exact ⟨1, F', h2, fun q => absurd ⟨q.1, q.2.1⟩ h1, ha, ho, hs, h.step ha ho hs⟩
    · have e1 : opS (W * D * T) bs i k = bs := if_neg (fun q => h2 q.2.2)
      rw [e1]
      exact ⟨10, F', h3, fun q => absurd q.2.2 h2, ha, ho, hs, h.step ha ho hs⟩
    · have e1 : opS (W * D * T) bs (I : Int) k = bs.set I k := by
        have : (0 : Int) ≤ (I : Int) ∧ (I : Int) < ((W * D * T : Nat) : Int) ∧ 0 ≤ k ∧ k ≤ 16 := ⟨by omega, by omega, h3.1, h3.2⟩
        unfold opS
        rw [if_pos this, Int.toNat_natCast]
      rw [e1]
      exact ⟨0, F', h4, fun _ => rfl, ha, ho, hs, h.step ha ho hs⟩)
end
theorem set_selfJ {bs : List Int} {I : Nat} (h : I < bs.length) : bs.set I (bs.getD I 0) = bs := by
  refine C.getD_ext (by rw [List.length_set]) fun j hj => ?_
  by_cases q : I = j
  · subst q; rw [C.getD_set_self bs I _ h]
  · rw [C.getD_set_ne bs _ q]
/-- Two fields, apart. -/
structure Duo (J : JSpec) (w0 : World) (W D T : Nat) (bs cs : List Int) (p q : Nat) (F G : Nat → Prop) (w : World) : Prop where
  f : Fj J w0 W D T bs p F w
  g : Fj J w0 W D T cs q G w
  d : ∀ j, F j → ¬ G j
section
variable {J : JSpec} {w0 : World} {W D T : Nat} {bs bs' cs cs' : List Int} {p q : Nat} {F F' G G' : Nat → Prop} {w w' : World}
theorem Fj.keep (h : Fj J w0 W D T bs p F w) (ho : OnlyF G w w') (hd : ∀ j, F j → ¬ G j) (hb : Below w0.heap.size w0 w') (hg : J.G w') : Fj J w0 W D T bs p F w' :=
  ⟨hg, J.keep h.a ho.size (fun j hj => ho.block j (J.lt h.a j hj) (hd j hj)), hb, h.f⟩
theorem Duo.stepF (h : Duo J w0 W D T bs cs p q F G w) (ho : OnlyF F w w') (hs : ∀ j, F' j → F j ∨ w.heap.size ≤ j) (hf : Fj J w0 W D T bs' p F' w') : Duo J w0 W D T bs' cs p q F' G w' :=
  ⟨hf, h.g.keep ho (fun j hj hF => h.d j hF hj) hf.b hf.g, fun j hj hG => (hs j hj).elim (fun r => h.d j r hG) (fun r => by have := J.lt h.g.a j hG; omega)⟩
theorem Duo.stepG (h : Duo J w0 W D T bs cs p q F G w) (ho : OnlyF G w w') (hs : ∀ j, G' j → G j ∨ w.heap.size ≤ j) (hg : Fj J w0 W D T cs' q G' w') : Duo J w0 W D T bs cs' p q F G' w' :=
  ⟨h.f.keep ho h.d hg.b hg.g, hg, fun j hj hG => (hs j hG).elim (fun r => h.d j hj r) (fun r => by have := J.lt h.f.a j hj; omega)⟩
end
end Go.Proofs.YtmfjmcaaoljjlaaDoor
