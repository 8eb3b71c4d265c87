/-
  Overlays in the laws: with a row beside them; two of them; the program's and the document's.
-/
import Derived.Test.YthanmgejgmhccaaLw
import Derived.Test.YthanmgejgmhccaaLaw2
set_option maxRecDepth 20000
namespace Go.Proofs.Ythanmgejgmhccaa
open C Go.RowKit Go.Shelf

/-- An overlay over a chunk, and the row of the chunk's bytes. -/
structure Lu (w0 : World) (B A D o e g : Nat) (E G : List Int) (d : Bool) (w : World) : Prop where
  lo : Lo w0 B D o e g E G d w
  row : Blk w A 5 G
  ad : A < D
theorem Lu.on {w0 w w' : World} {B A D o e g : Nat} {E G : List Int} {d : Bool} (h : Lu w0 B A D o e g E G d w) (hb : Below w.heap.size w w') : Lu w0 B A D o e g E G d w' := ⟨h.lo.on hb, h.row.on hb, h.ad⟩
theorem Lu.set {w0 w w' : World} {B A D o e g : Nat} {E G : List Int} {d : Bool} (h : Lu w0 B A D o e g E G d w) {E' : List Int} {d' : Bool} (ho : Ov B w' o e g E' G d') (h2 : Only2 o e w w') : Lu w0 B A D o e g E' G d' w' := by
  have h1 := h.lo.db
  have h3 := h.ad
  have h4 := h.lo.ov.bo
  have h5 := h.lo.ov.be
  exact ⟨h.lo.set ho h2, (h2.block A (by omega) (by omega)).trans h.row, h3⟩
/-- Two overlays over a chunk. -/
structure Lb (w0 : World) (B B2 D o e g p q r : Nat) (E F G : List Int) (d c : Bool) (w : World) : Prop where
  a : Lo w0 B D o e g E G d w
  b : Ov B2 w p q r F G c
  bb : B ≤ B2
  ho : o < B2
  he : e < B2
  hg : g < B2
section
variable {w0 w w' : World} {B B2 D o e g p q r : Nat} {E F G : List Int} {d c : Bool}
theorem Lb.on (h : Lb w0 B B2 D o e g p q r E F G d c w) (hb : Below w.heap.size w w') : Lb w0 B B2 D o e g p q r E F G d c w' := ⟨h.a.on hb, h.b.on hb, h.bb, h.ho, h.he, h.hg⟩
theorem Lb.seta (h : Lb w0 B B2 D o e g p q r E F G d c w) {E' : List Int} {d' : Bool} (ho : Ov B w' o e g E' G d') (h2 : Only2 o e w w') : Lb w0 B B2 D o e g p q r E' F G d' c w' := by
  have h1 := h.ho
  have h3 := h.he
  have h4 := h.b.bo
  have h5 := h.b.be
  have h6 := h.b.bg
  exact ⟨h.a.set ho h2, h.b.only h2 (by omega) (by omega) (by omega) (by omega) (by omega) (by omega), h.bb, h.ho, h.he, h.hg⟩
theorem Lb.setb (h : Lb w0 B B2 D o e g p q r E F G d c w) {F' : List Int} {c' : Bool} (ho : Ov B2 w' p q r F' G c') (h2 : Only2 p q w w') : Lb w0 B B2 D o e g p q r E F' G d c' w' := by
  have h1 := h.ho
  have h3 := h.he
  have h4 := h.b.bo
  have h5 := h.b.be
  have h6 := h.hg
  have h7 := h.a.db
  have h8 := h.bb
  have h9 := h.a.wb
  exact ⟨⟨h.a.ov.only h2 (by omega) (by omega) (by omega) (by omega) (by omega) (by omega), (h2.block D (by omega) (by omega)).trans h.a.c, h.a.db, h.a.wb, h.a.b.trans (h2.below (by omega) (by omega))⟩, ho, h.bb, h.ho, h.he, h.hg⟩
end
/-- The program's overlay and the document's, in a law. -/
structure Ld (w0 : World) (B o e g r a ac b bc : Nat) (E G : List Int) (d : Bool) (w : World) : Prop where
  x : Both B w o e g r a ac b bc E G d
  wb : w0.heap.size ≤ B
  b : Below w0.heap.size w0 w
section
variable {w0 w w' : World} {B o e g r a ac b bc : Nat} {E G : List Int} {d : Bool}
theorem Ld.on (h : Ld w0 B o e g r a ac b bc E G d w) (hb : Below w.heap.size w w') : Ld w0 B o e g r a ac b bc E G d w' := ⟨h.x.on hb, h.wb, h.b.trans (hb.mono h.b.size)⟩
/-- Ahead of the document's call: the program's overlay is changed already. -/
structure Lm (w0 : World) (B o e g r a ac b bc : Nat) (E F G : List Int) (d c : Bool) (w : World) : Prop where
  o : Ov B w o e g E G d
  r : Rv B w r a ac b bc F G c
  wb : w0.heap.size ≤ B
  b : Below w0.heap.size w0 w
theorem Lm.on {F : List Int} {c : Bool} (h : Lm w0 B o e g r a ac b bc E F G d c w) (hb : Below w.heap.size w w') : Lm w0 B o e g r a ac b bc E F G d c w' := ⟨h.o.on hb, h.r.on hb, h.wb, h.b.trans (hb.mono h.b.size)⟩
theorem Ld.seto (h : Ld w0 B o e g r a ac b bc E G d w) {E' : List Int} {d' : Bool} (ho : Ov B w' o e g E' G d') (h2 : Only2 o e w w') : Lm w0 B o e g r a ac b bc E' E G d' d w' := by
  have h1 := h.x.o.bo
  have h3 := h.x.o.be
  have h4 := h.wb
  exact ⟨ho, h.x.r.only h.x.o h2, h.wb, h.b.trans (h2.below (by omega) (by omega))⟩
theorem Lm.setr {F : List Int} {c : Bool} (h : Lm w0 B o e g r a ac b bc E F G d c w) (hr : Rv B w' r a ac b bc E G d) (h2 : Only2 r b w w') : Ld w0 B o e g r a ac b bc E G d w' := by
  have h1 := h.r.br
  have h3 := h.r.bb
  have h4 := h.wb
  exact ⟨⟨h.o.ronly h.r h2, hr⟩, h.wb, h.b.trans (h2.below (by omega) (by omega))⟩
theorem Lm.clean {c : Bool} (h : Lm w0 B o e g r a ac b bc E E G false c w) : Ld w0 B o e g r a ac b bc E G false (w.setCell ⟨r, 2, none⟩ (.bool false)) :=
  h.setr (h.r.setd false) ((Only2.refl r b w).set 2 _)
theorem rget_q {va u : World} {l : List (Nat × List Int)} (h : Kq va l u) (hO : Rv B va r a ac b bc E G d) (i : Int) : Calls Try.prog 14 #[.pointer (some ⟨r, 0, none⟩), .int .i64 i] u fun e u' => e = .returned (.int .i64 (getO E G i)) ∧ Kq va l u' :=
  (rget_c (hO.on h.b) i).mono fun _ _ ⟨he, hw⟩ => ⟨he, by rw [hw]; exact h⟩
end
theorem all16 {E : List Int} (hl : E.length = 32768) (h : ∀ j, j < 32768 → E.getD j 0 = 16) : E = List.replicate 32768 16 :=
  getD_ext (hl.trans List.length_replicate.symm) fun j hj => by
    rw [hl] at hj
    rw [h j hj, getD_replicate _ _ _ hj]
theorem fin16 {E G : List Int} (hs : Sp E G) (h : ∀ j, j < 32768 → E.getD j 0 = 16) : IsFin E G G :=
  ⟨hs.gl, hs.gk, fun j hj => by unfold finK; rw [h j hj, if_pos rfl]⟩
theorem code0 {x k : Int} (hx : 0 ≤ x ∧ x < 32768) (hk : 0 ≤ k ∧ k < 16) : codeO x k = 0 := by unfold codeO; rw [if_pos hx, if_pos hk]
/-- A Set puts just its own cell among the edited ones. -/
theorem edited_more {E G : List Int} (h : Sp E G) {P : Nat → Int} {i : Nat} (hI : ∀ j, j < 32768 → E.getD j 0 ≠ 16 → ∃ m, m < i ∧ P m = (j : Int)) (k : Int) : ∀ j, j < 32768 → (setE E G (P i) k).getD j 0 ≠ 16 → ∃ m, m < i + 1 ∧ P m = (j : Int) := fun j hj hne => by
  rw [setE_getD h _ k j hj] at hne
  by_cases c : P i = j ∧ 0 ≤ k ∧ k < 16
  · exact ⟨i, by omega, c.1⟩
  · rw [if_neg c] at hne
    obtain ⟨m, hm, e⟩ := hI j hj hne
    exact ⟨m, by omega, e⟩
/-- A Set to what was generated takes its cell away from them. -/
theorem edited_less {E G : List Int} (h : Sp E G) {P : Nat → Int} {i n X : Nat} (hX : P i = (X : Int)) {k : Int} (hk : G.getD X 0 = k) (hk2 : 0 ≤ k ∧ k < 16) (hI : ∀ j, j < 32768 → E.getD j 0 ≠ 16 → ∃ m, i ≤ m ∧ m < n ∧ P m = (j : Int)) : ∀ j, j < 32768 → (setE E G (X : Int) k).getD j 0 ≠ 16 → ∃ m, i + 1 ≤ m ∧ m < n ∧ P m = (j : Int) := fun j hj hne => by
  rw [setE_getD h _ k j hj] at hne
  by_cases c : (X : Int) = j ∧ 0 ≤ k ∧ k < 16
  · rw [if_pos c] at hne
    have e : X = j := by omega
    subst e
    exact absurd (by unfold newK; rw [if_pos hk.symm]) hne
  · rw [if_neg c] at hne
    obtain ⟨m, h1, h2, h3⟩ := hI j hj hne
    refine ⟨m, ?_, h2, h3⟩
    by_cases e : m = i
    · subst e
      rw [hX] at h3
      exact absurd ⟨h3, hk2⟩ c
    · omega
theorem edited_past {E : List Int} {P : Nat → Int} {i n : Nat} (hX : ¬ (0 ≤ P i ∧ P i < 32768)) (hI : ∀ j, j < 32768 → E.getD j 0 ≠ 16 → ∃ m, i ≤ m ∧ m < n ∧ P m = (j : Int)) : ∀ j, j < 32768 → E.getD j 0 ≠ 16 → ∃ m, i + 1 ≤ m ∧ m < n ∧ P m = (j : Int) := fun j hj hne => by
  obtain ⟨m, h1, h2, h3⟩ := hI j hj hne
  refine ⟨m, ?_, h2, h3⟩
  by_cases e : m = i
  · subst e
    exact absurd (by omega) hX
  · omega
/-- Two overlays that differ at no other cell than number i; at i the second one has k. -/
structure Alike (E F G : List Int) (i k : Int) : Prop where
  o : ∀ j : Nat, j < 32768 → i ≠ j → E.getD j 0 = F.getD j 0
  i : ∀ j : Nat, j < 32768 → i = j → F.getD j 0 = newK G j k
theorem Alike.both {E F G : List Int} {i k x y : Int} (h : Alike E F G i k) (hE : Sp E G) (hF : Sp F G) (hx : x ≠ i) : Alike (setE E G x y) (setE F G x y) G i k :=
  ⟨fun j hj hn => by rw [setE_getD hE x y j hj, setE_getD hF x y j hj, h.o j hj hn], fun j hj e => by
    rw [setE_getD hF x y j hj, if_neg (fun q => hx (q.1.trans e.symm))]
    exact h.i j hj e⟩
theorem Alike.one {E F G : List Int} {i k y : Int} (h : Alike E F G i k) (hE : Sp E G) : Alike (setE E G i y) F G i k :=
  ⟨fun j hj hn => by rw [setE_getD hE i y j hj, if_neg (fun q => hn q.1), h.o j hj hn], h.i⟩
theorem Alike.last {E F G : List Int} {i k : Int} (h : Alike E F G i k) (hE : Sp E G) (hF : Sp F G) (hk : 0 ≤ k ∧ k < 16) : setE E G i k = F :=
  getD_ext (by rw [setE_len, hE.el, hF.el]) fun j hj => by
    rw [setE_len, hE.el] at hj
    rw [setE_getD hE i k j hj]
    by_cases e : i = j
    · rw [if_pos ⟨e, hk⟩, h.i j hj e]
    · rw [if_neg (fun q => e q.1), h.o j hj e]
theorem Alike.first {E G : List Int} {i k : Int} (hE : Sp E G) (hk : 0 ≤ k ∧ k < 16) : Alike E (setE E G i k) G i k :=
  ⟨fun j hj hn => by rw [setE_getD hE i k j hj, if_neg (fun q => hn q.1)], fun j hj e => by rw [setE_getD hE i k j hj, if_pos ⟨e, hk⟩]⟩
theorem getO_set {E G : List Int} (hE : Sp E G) {i k : Int} (hi : 0 ≤ i ∧ i < 32768) (hk : 0 ≤ k ∧ k < 16) : getO (setE E G i k) G i = k := by
  unfold getO
  rw [if_pos hi]
  obtain ⟨I, rfl⟩ := Int.eq_ofNat_of_zero_le hi.1
  rw [Int.toNat_natCast, finK_set hE _ k I (by omega), if_pos ⟨rfl, hk⟩]
end Go.Proofs.Ythanmgejgmhccaa
