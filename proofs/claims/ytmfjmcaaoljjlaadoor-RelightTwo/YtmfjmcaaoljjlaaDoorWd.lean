/-
  Two fields of the program in a law, and the rows that they handed out.
-/
import Derived.Test.YtmfjmcaaoljjlaaDoorWt
set_option maxRecDepth 20000
namespace Go.Proofs.YtmfjmcaaoljjlaaDoor
open C Go.RowKit L

/-- Rows that lie in a world. -/
def Kp (l : List (Nat × List Int)) (w : World) : Prop := ∀ x ∈ l, Pre w x.1 5 x.2
/-- Two fields, and rows that are none of theirs. -/
structure Duk (J : JSpec) (w0 : World) (W D T : Nat) (bs cs : List Int) (p q : Nat) (F G : Nat → Prop) (l : List (Nat × List Int)) (w : World) : Prop where
  d : Duo J w0 W D T bs cs p q F G w
  k : Kp l w
  n : ∀ x ∈ l, ¬ F x.1 ∧ ¬ G x.1
section
variable {J : JSpec} {w0 : World} {W D T : Nat} {bs cs : List Int} {p q : Nat} {F F' G G' : Nat → Prop} {l : List (Nat × List Int)} {w w' : World}
theorem Duk.stepF (h : Duk J w0 W D T bs cs p q F G l w) {g : Nat} {r : List Int} (hp : Pre w' g 5 r) (hz : w.heap.size ≤ g) (hn : ¬ F' g) (ha : J.A W D T bs p F' w') (ho : OnlyF F w w') (hs : ∀ j, F' j → F j ∨ w.heap.size ≤ j) : Duk J w0 W D T bs cs p q F' G ((g, r) :: l) w' := by
  refine ⟨h.d.stepF ho hs (h.d.f.step ha ho hs), ?_, ?_⟩
  · intro x hx
    rcases List.mem_cons.1 hx with rfl | hx
    · exact hp
    · exact (h.k x hx).only ho (h.n x hx).1
  · intro x hx
    rcases List.mem_cons.1 hx with rfl | hx
    · exact ⟨hn, fun r => by have := J.lt h.d.g.a _ r; omega⟩
    · exact ⟨fun r => (hs _ r).elim (h.n x hx).1 (fun r => by have := (h.k x hx).lt; omega), (h.n x hx).2⟩
theorem Duk.stepG (h : Duk J w0 W D T bs cs p q F G l w) {g : Nat} {r : List Int} (hp : Pre w' g 5 r) (hz : w.heap.size ≤ g) (hn : ¬ G' g) (ha : J.A W D T cs q G' w') (ho : OnlyF G w w') (hs : ∀ j, G' j → G j ∨ w.heap.size ≤ j) : Duk J w0 W D T bs cs p q F G' ((g, r) :: l) w' := by
  refine ⟨h.d.stepG ho hs (h.d.g.step ha ho hs), ?_, ?_⟩
  · intro x hx
    rcases List.mem_cons.1 hx with rfl | hx
    · exact hp
    · exact (h.k x hx).only ho (h.n x hx).2
  · intro x hx
    rcases List.mem_cons.1 hx with rfl | hx
    · exact ⟨fun r => by have := J.lt h.d.f.a _ r; omega, hn⟩
    · exact ⟨(h.n x hx).1, fun r => (hs _ r).elim (h.n x hx).2 (fun r => by have := (h.k x hx).lt; omega)⟩
variable (hb : Bx W D T) {n : Nat} (hn : n = W * D * T)
include hn
theorem Duk.skyF (h : Duk J w0 W D T bs cs p q F G l w) (hk : Kinds bs) (hl : bs.length = W * D * T) : Calls Tryd.prog 12 #[.pointer (some ⟨p, 0, none⟩)] w fun e w' => ∃ g c F' r, e = .returned (.slice (some ⟨g, 0, none⟩) n c) ∧ LightOf (L.skyS W D T (fun j => bs.getD j 0) hb.w0 hb.d0) n r ∧ Duk J w0 W D T bs cs p q F' G ((g, r) :: l) w' :=
  (J.sky W D T bs p F w hb h.d.f.g h.d.f.a hk hl).mono (by
    subst hn
    rintro e w' ⟨g, c, F', r, he, hp, hl', hz, hn, ha, ho, hs⟩
    exact ⟨g, c, F', r, he, hl', h.stepF hp hz hn ha ho hs⟩)
theorem Duk.skyG (h : Duk J w0 W D T bs cs p q F G l w) (hk : Kinds cs) (hl : cs.length = W * D * T) : Calls Tryd.prog 12 #[.pointer (some ⟨q, 0, none⟩)] w fun e w' => ∃ g c G' r, e = .returned (.slice (some ⟨g, 0, none⟩) n c) ∧ LightOf (L.skyS W D T (fun j => cs.getD j 0) hb.w0 hb.d0) n r ∧ Duk J w0 W D T bs cs p q F G' ((g, r) :: l) w' :=
  (J.sky W D T cs q G w hb h.d.g.g h.d.g.a hk hl).mono (by
    subst hn
    rintro e w' ⟨g, c, F', r, he, hp, hl', hz, hn, ha, ho, hs⟩
    exact ⟨g, c, F', r, he, hl', h.stepG hp hz hn ha ho hs⟩)
theorem Duk.lampF (h : Duk J w0 W D T bs cs p q F G l w) (hk : Kinds bs) (hl : bs.length = W * D * T) : Calls Tryd.prog 16 #[.pointer (some ⟨p, 0, none⟩)] w fun e w' => ∃ g c F' r, e = .returned (.slice (some ⟨g, 0, none⟩) n c) ∧ LightOf (L.lampS W D T (fun j => bs.getD j 0) hb.w0 hb.d0) n r ∧ Duk J w0 W D T bs cs p q F' G ((g, r) :: l) w' :=
  (J.lamp W D T bs p F w hb h.d.f.g h.d.f.a hk hl).mono (by
    subst hn
    rintro e w' ⟨g, c, F', r, he, hp, hl', hz, hn, ha, ho, hs⟩
    exact ⟨g, c, F', r, he, hl', h.stepF hp hz hn ha ho hs⟩)
theorem Duk.lampG (h : Duk J w0 W D T bs cs p q F G l w) (hk : Kinds cs) (hl : cs.length = W * D * T) : Calls Tryd.prog 16 #[.pointer (some ⟨q, 0, none⟩)] w fun e w' => ∃ g c G' r, e = .returned (.slice (some ⟨g, 0, none⟩) n c) ∧ LightOf (L.lampS W D T (fun j => cs.getD j 0) hb.w0 hb.d0) n r ∧ Duk J w0 W D T bs cs p q F G' ((g, r) :: l) w' :=
  (J.lamp W D T cs q G w hb h.d.g.g h.d.g.a hk hl).mono (by
    subst hn
    rintro e w' ⟨g, c, F', r, he, hp, hl', hz, hn, ha, ho, hs⟩
    exact ⟨g, c, F', r, he, hl', h.stepG hp hz hn ha ho hs⟩)
include hb
theorem Duk.kindsF (h : Duk J w0 W D T bs cs p q F G l w) (hk : Kinds bs) (hl : bs.length = W * D * T) : Calls Tryd.prog 17 #[.pointer (some ⟨p, 0, none⟩)] w fun e w' => ∃ g c F', e = .returned (.slice (some ⟨g, 0, none⟩) n c) ∧ Duk J w0 W D T bs cs p q F' G ((g, bs) :: l) w' :=
  (J.kinds W D T bs p F w hb h.d.f.g h.d.f.a hk hl).mono (by
    subst hn
    rintro e w' ⟨g, c, F', he, hp, hz, hn, ha, ho, hs⟩
    exact ⟨g, c, F', he, h.stepF hp hz hn ha ho hs⟩)
theorem Duk.kindsG (h : Duk J w0 W D T bs cs p q F G l w) (hk : Kinds cs) (hl : cs.length = W * D * T) : Calls Tryd.prog 17 #[.pointer (some ⟨q, 0, none⟩)] w fun e w' => ∃ g c G', e = .returned (.slice (some ⟨g, 0, none⟩) n c) ∧ Duk J w0 W D T bs cs p q F G' ((g, cs) :: l) w' :=
  (J.kinds W D T cs q G w hb h.d.g.g h.d.g.a hk hl).mono (by
    subst hn
    rintro e w' ⟨g, c, F', he, hp, hz, hn, ha, ho, hs⟩
    exact ⟨g, c, F', he, h.stepG hp hz hn ha ho hs⟩)
end
theorem kp_text {l : List (Nat × List Int)} {g n c : Nat} {r : List Int} {X : ByteArray} (hl : r.length = n) (hk : Kinds r) (hX : strOfNums r = X) (s : Sub (Kp ((g, r) :: l))) : (convert 22 9 (.slice (some ⟨g, 0, none⟩) n c)).run Tryd.prog s.w = .ok (.string X) s.w := by
  rw [← hX]
  exact pre_text (s.ok (g, r) (List.mem_cons_self ..)) hl hk
theorem kp_more {l : List (Nat × List Int)} {x : Nat × List Int} (w : World) (h : Kp (x :: l) w) : Kp l w := fun y hy => h y (List.mem_cons_of_mem _ hy)
theorem codes_same {W D T : Int} {n : Nat} {cc cd : Int} (h : (cc = 1 ∧ ¬ OkDims W D T n) ∨ (cc = 10 ∧ OkDims W D T n)) (h' : (cd = 1 ∧ ¬ OkDims W D T n) ∨ (cd = 10 ∧ OkDims W D T n)) : cd = cc ∧ cc ≠ 0 := by
  rcases h with ⟨q, r⟩ | ⟨q, r⟩ <;> rcases h' with ⟨q', r'⟩ | ⟨q', r'⟩
  · omega
  · exact absurd r' r
  · exact absurd r r'
  · omega
/-- Two fields made one behind the other. -/
theorem duo_new {J : JSpec} {w0 w2 w3 : World} {W D T : Nat} {bs cs : List Int} {p q : Nat} {F G : Nat → Prop} (hf : Fj J w0 W D T bs p F w2) (hb : Below w2.heap.size w2 w3) (ha : J.A W D T cs q G w3) (hg : ∀ j, G j → w2.heap.size ≤ j) : Duo J w0 W D T bs cs p q F G w3 :=
  ⟨hf.on hb, ⟨J.gon hf.g hb, ha, (hf.on hb).b, fun j hj => Nat.le_trans hf.b.size (hg j hj)⟩, fun j hj hG => by have := J.lt hf.a j hj; have := hg j hG; omega⟩
theorem Duo.on {J : JSpec} {w0 : World} {W D T : Nat} {bs cs : List Int} {p q : Nat} {F G : Nat → Prop} {w w' : World} (h : Duo J w0 W D T bs cs p q F G w) (hb : Below w.heap.size w w') : Duo J w0 W D T bs cs p q F G w' := ⟨h.f.on hb, h.g.on hb, h.d⟩
theorem Duo.duk {J : JSpec} {w0 : World} {W D T : Nat} {bs cs : List Int} {p q : Nat} {F G : Nat → Prop} {w : World} (h : Duo J w0 W D T bs cs p q F G w) : Duk J w0 W D T bs cs p q F G [] w := ⟨h, fun _ hx => absurd hx List.not_mem_nil, fun _ hx => absurd hx List.not_mem_nil⟩
end Go.Proofs.YtmfjmcaaoljjlaaDoor
