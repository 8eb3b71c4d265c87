/-
  What is asked of a journal, as a structure: the laws are walked over it.
-/
import Derived.Test.YtjkeejbfipmidaaVmath
import Derived.Test.YtjkeejbfipmidaaRcopy
import Derived.Test.YtjkeejbfipmidaaSmall
import Derived.Test.YtjkeejbfipmidaaPwrite
set_option maxRecDepth 20000
namespace Go.Proofs.Ytjkeejbfipmidaa
open Go.RowKit

/-- A footprint, grown by what is new. -/
def Gr (F : Nat → Prop) (w w' : World) : Nat → Prop := fun k => F k ∨ (w.heap.size ≤ k ∧ k < w'.heap.size)
/-- A disk behind so many writes. -/
def StepsN : Nat → St → St → Prop
  | 0, S, S' => S' = S
  | n + 1, S, S' => ∃ f i b, S.out = false ∧ argOk i (b : List Int).length ∧ StepsN n (S.wrote f i b) S'
/-- A disk behind some writes. -/
def Steps (S S' : St) : Prop := ∃ n, StepsN n S S'
theorem Steps.refl (S : St) : Steps S S := ⟨0, rfl⟩
theorem Steps.step {S S' : St} (f : Fl) (i : Int) (b : List Int) (ho : S.out = false) (ha : argOk i b.length) (h : Steps (S.wrote f i b) S') : Steps S S' := by
  obtain ⟨n, h⟩ := h
  exact ⟨n + 1, f, i, b, ho, ha, h⟩
theorem Steps.armed {S S' : St} (h : Steps S S') : S'.armed = S.armed := by
  obtain ⟨n, h⟩ := h
  induction n generalizing S with
  | zero => rw [show S' = S from h]
  | succ n ih =>
    obtain ⟨f, i, b, _, _, h⟩ := h
    exact ih (S := S.wrote f i b) h
theorem Steps.free {S S' : St} (h : Steps S S') (hf : S.free) : S'.free := by
  obtain ⟨n, h⟩ := h
  induction n generalizing S with
  | zero => rw [show S' = S from h]; exact hf
  | succ n ih =>
    obtain ⟨f, i, b, _, _, h⟩ := h
    exact ih (S := S.wrote f i b) ⟨by simp [St.wrote, hf.2], hf.2⟩ h
/-- With one write left: none was done, or just that one. -/
theorem Steps.last {S S' : St} (h : Steps S S') (ha : S.armed = true) (hl : S.left = 1) : S' = S ∨ (S'.out = true ∧ S'.writes = S.writes + 1) := by
  obtain ⟨n, h⟩ := h
  match n, h with
  | 0, h => exact Or.inl h
  | 1, ⟨f, i, b, ho, _, h⟩ =>
    rw [show S' = S.wrote f i b from h]
    exact Or.inr ⟨by simp [St.wrote, ha, hl], rfl⟩
  | n + 2, ⟨f, i, b, ho, _, g, k, c, ho2, _, _⟩ =>
    have ho' : (S.wrote f i b).out = true := by simp [St.wrote, ha, hl]
    rw [ho'] at ho2
    cases ho2
structure JSpec where
  /-- A disk that Open takes to V. -/
  Rec : St → List Bk → Prop
  /-- A journal at its disk, which shows V. -/
  JP : (Nat → Prop) → World → Nat → Nat → St → List Bk → Prop
  /-- A journal behind ErrDown. -/
  JX : (Nat → Prop) → World → Nat → Nat → St → Prop
  new : Rec St.new []
  rec_l : ∀ {S S' : St} {V : List Bk}, Rec S V → S'.l = S.l → Rec S' V
  jp_rec : ∀ {F w j d S V}, JP F w j d S V → Rec S V
  jp_sees : ∀ {F w j d S V}, JP F w j d S V → Sees S V
  jp_disk : ∀ {F w j d S V}, JP F w j d S V → PDisk F w d S
  jp_keep : ∀ {F w w' j d S V}, JP F w j d S V → (∀ k, F k → w'.heap[k]? = w.heap[k]?) → JP F w' j d S V
  jp_more : ∀ {F F' : Nat → Prop} {w j d S V}, JP F w j d S V → (∀ k, F k → F' k) → JP F' w j d S V
  jp_cut : ∀ {F w w' j d S V n}, JP F w j d S V → Only d w w' → PDisk F w' d (S.cut n) → JP F w' j d (S.cut n) V
  jx_disk : ∀ {F w j d S}, JX F w j d S → PDisk F w d S
  jx_keep : ∀ {F w w' j d S}, JX F w j d S → (∀ k, F k → w'.heap[k]? = w.heap[k]?) → JX F w' j d S
  open_ : ∀ (F : Nat → Prop) (d : Nat) (S : St) (V : List Bk) (w : World), PDisk F w d S → (∀ k, F k → k < w.heap.size) → Rec S V → S.writes ≤ 900000 →
    Calls Try.prog 12 #[.pointer (some ⟨d, 0, none⟩)] w fun e w' => ∃ S' jv E, e = .returned (.tuple #[jv, .int .i64 E]) ∧ Chg F w w' ∧ S'.writes ≤ S.writes + 2000 ∧ Steps S S' ∧
      ((E = 0 ∧ ∃ j, jv = .pointer (some ⟨j, 0, none⟩) ∧ JP (Gr F w w') w' j d S' V) ∨ (E = 8 ∧ ¬ S.free ∧ PDisk (Gr F w w') w' d S' ∧ Rec S' V))
  group_ : ∀ (F : Nat → Prop) (j d : Nat) (S : St) (V : List Bk) (a : Option Addr) (n c : Nat) (l : List Pt) (w : World), JP F w j d S V → (∀ k, F k → k < w.heap.size) → l.length = n → n ≤ 1000000 → Puts w a l → S.writes ≤ 900000 →
    Calls Try.prog 14 #[.pointer (some ⟨j, 0, none⟩), .slice a n c] w fun e w' => ∃ S' E, e = .returned (.int .i64 E) ∧ Chg F w w' ∧ S'.writes ≤ S.writes + 2000 ∧ Steps S S' ∧
      ((may (l.map Pt.bk) ≠ 0 ∧ E = may (l.map Pt.bk) ∧ JP (Gr F w w') w' j d S' V) ∨
       (may (l.map Pt.bk) = 0 ∧ E = 0 ∧ S'.out = false ∧ JP (Gr F w w') w' j d S' (doAll V (l.map Pt.bk))) ∨
       (may (l.map Pt.bk) = 0 ∧ E = 8 ∧ ¬ S.free ∧ S'.out = true ∧ JX (Gr F w w') w' j d S' ∧ (Rec S' V ∨ S.writes + 2 ≤ S'.writes ∧ Rec S' (doAll V (l.map Pt.bk)))))
  groupx_ : ∀ (F : Nat → Prop) (j d : Nat) (S : St) (a : Option Addr) (n c : Nat) (l : List Pt) (w : World), JX F w j d S → (∀ k, F k → k < w.heap.size) → S.out = true → l.length = n → n ≤ 1000000 → Puts w a l →
    Calls Try.prog 14 #[.pointer (some ⟨j, 0, none⟩), .slice a n c] w fun e w' => ∃ E, e = .returned (.int .i64 E) ∧ E ≠ 0 ∧ Chg F w w' ∧ JX (Gr F w w') w' j d S
theorem Gr.trans {F : Nat → Prop} {a b c : World} (hab : a.heap.size ≤ b.heap.size) (hbc : b.heap.size ≤ c.heap.size) : ∀ k, Gr (Gr F a b) b c k → Gr F a c k := fun k hk => by
  rcases hk with (h | h) | h
  · exact Or.inl h
  · exact Or.inr ⟨h.1, by omega⟩
  · exact Or.inr ⟨by omega, h.2⟩
theorem Gr.lt {F : Nat → Prop} {a b : World} (hF : ∀ k, F k → k < a.heap.size) (hs : a.heap.size ≤ b.heap.size) : ∀ k, Gr F a b k → k < b.heap.size := fun k hk => by
  rcases hk with h | h
  · have := hF k h; omega
  · exact h.2
theorem Chg.gr {F : Nat → Prop} {a b c : World} (h : Chg F a b) (k : Chg (Gr F a b) b c) : Chg F a c := h.trans k (fun _ hj => hj.imp id (fun h => h.1))
theorem Only.toChg {g : Nat} {F : Nat → Prop} {w w' : World} (h : Only g w w') (hg : F g) : Chg F w w' := h.chg hg
/-- Whole numbers in a slice, apart from F. -/
def Ints (F : Nat → Prop) (w : World) (a : Option Addr) (n : Nat) : Prop := ∀ k, k < n → ∃ b off x, a = some ⟨b, off, none⟩ ∧ I64 x ∧ ¬ F b ∧ w.cell? ⟨b, off + k, none⟩ = some (.int .i64 x)
theorem Ints.chg {F : Nat → Prop} {w w' : World} {a : Option Addr} {n : Nat} (h : Ints F w a n) (hC : Chg F w w') {k : Nat} (hk : k < n) : ∃ b off x, a = some ⟨b, off, none⟩ ∧ I64 x ∧ w'.cell? ⟨b, off + k, none⟩ = some (.int .i64 x) := by
  obtain ⟨b, off, x, e, hx, hb, hc⟩ := h k hk
  exact ⟨b, off, x, e, hx, by rw [← hc]; exact World.cell?_of_block (a := ⟨b, off + k, none⟩) (hC.block b (World.block_lt_of_cell? w _ hc) hb)⟩
theorem PDisk.inF {F : Nat → Prop} {w : World} {d : Nat} {S : St} (h : PDisk F w d S) : F d := by
  obtain ⟨mb, ml, h⟩ := h
  exact h.inF
theorem Chg.idem {F : Nat → Prop} {a b : World} {c : World} (h : Chg F a b) (k : Chg F b c) : Chg F a c := h.trans k (fun _ hj => Or.inl hj)

set_option maxHeartbeats 4000000 in
theorem opened_c (J : JSpec) (F : Nat → Prop) (d : Nat) (S : St) (V : List Bk) (ca : Option Addr) (cn cc : Nat) (w : World) (hD : PDisk F w d S) (hF : ∀ k, F k → k < w.heap.size) (hV : J.Rec S V) (hw : S.writes ≤ 800000) (hI : Ints F w ca cn) (hcn : cn ≤ maxLen) :
    Calls Try.prog 21 #[.pointer (some ⟨d, 0, none⟩), .slice ca cn cc] w fun e w' => ∃ j S', e = .returned (.pointer (some ⟨j, 0, none⟩)) ∧ J.JP (Gr F w w') w' j d S' V ∧ S'.free ∧ Chg F w w' ∧ S'.writes ≤ S.writes + 42000 := by
  obtain ⟨Post, hPost⟩ : ∃ Post : Ending → World → Prop, Post = fun e w' => ∃ j S', e = .returned (.pointer (some ⟨j, 0, none⟩)) ∧ J.JP (Gr F w w') w' j d S' V ∧ S'.free ∧ Chg F w w' ∧ S'.writes ≤ S.writes + 42000 := ⟨_, rfl⟩
  rw [← hPost]
  have HP : Hid (∀ w' j S', J.JP (Gr F w w') w' j d S' V → S'.free → Chg F w w' → S'.writes ≤ S.writes + 42000 → Post (.returned (.pointer (some ⟨j, 0, none⟩))) w') := fun w' j S' h1 h2 h3 h4 => by rw [hPost]; exact ⟨j, S', rfl, h1, h2, h3, h4⟩
  clear hPost
  have HI : Hid (Ints F w ca cn) := hI
  have HF : Hid (∀ k, F k → k < w.heap.size) := hF
  have Hfd : Hid (F d) := hD.inF
  have H0 : Hid (PDisk (Gr F w w) w d S ∧ Chg F w w ∧ J.Rec S V ∧ S.writes ≤ S.writes + (0 : Nat) * 2000) := ⟨hD.more (fun _ h => Or.inl h), Chg.refl _ _, hV, by omega⟩
  have hcn' : (cn : Int) ≤ 9223372036854775807 := by unfold maxLen at hcn; omega
  clear hI hF hD hV hcn
  go_enter Try.func21, Try.ntmps21
  go_wp2
  go_loopw [5] (fun v wr => ∃ (j : Nat) (S1 : St), j ≤ cn ∧ j ≤ 20 ∧ v = .int .i64 (j : Int) ∧ Hid (PDisk (Gr F w wr) wr d S1 ∧ Chg F w wr ∧ J.Rec S1 V ∧ S1.writes ≤ S.writes + (j : Int) * 2000)) (fun v _ => 20 - (intOf v).toNat)
  case atStart => exact ⟨0, S, Nat.zero_le _, Nat.zero_le _, rfl, H0.out⟩
  case round =>
    clear H0
    obtain ⟨j, S1, hj, hj2, rfl, HS⟩ := hrel
    by_cases hlt : j < cn ∧ j < 20
    · have hlt1 : (j : Int) < cn := by omega
      have hlt2 : (j : Int) < 20 := by omega
      clear HP
      go_wp2_with fail
      refine (up_c _ d S1 wr HS.out.1).mono ?_
      rintro _ w1 ⟨rfl, hD1, hO1⟩
      have hsz1 := hO1.size
      have HC1 : Hid (Chg F w w1) := HS.out.2.1.idem (hO1.toChg Hfd.out)
      have HD1 : Hid (PDisk (Gr F w w1) w1 d S1.up) := by
        show PDisk (Gr F w w1) w1 d S1.up
        unfold Gr
        rw [hsz1]
        exact hD1
      have HR1 : Hid (J.Rec S1 V ∧ S1.writes ≤ S.writes + (j : Int) * 2000) := HS.out.2.2
      obtain ⟨b, off, x, rfl, hx, hcell⟩ := HI.out.chg HC1.out hlt.1
      have hx1 := hx.1
      have hx2 := hx.2
      clear hx hD1 hO1 HS hsz1
      go_wp2_with fail
      refine (cut_c _ d S1.up x ⟨hx1, hx2⟩ w1 HD1.out).mono ?_
      rintro _ w2 ⟨rfl, hD2, hO2⟩
      have hsz2 := hO2.size
      have HC2 : Hid (Chg F w w2) := HC1.out.idem (hO2.toChg Hfd.out)
      have HD2 : Hid (PDisk (Gr F w w2) w2 d (S1.up.cut x)) := by
        show PDisk (Gr F w w2) w2 d (S1.up.cut x)
        unfold Gr
        rw [hsz2]
        exact hD2
      have HR2 : Hid (J.Rec (S1.up.cut x) V) := J.rec_l HR1.out.1 rfl
      have hw2 : (S1.up.cut x).writes ≤ S.writes + (j : Int) * 2000 := HR1.out.2
      clear hD2 hO2 HD1 HC1 HR1 hcell hsz2
      go_wp2_with fail
      refine (J.open_ _ d _ V w2 HD2.out (Gr.lt HF.out HC2.out.size) HR2.out (by omega)).mono ?_
      rintro _ w3 ⟨S3, jv, E, rfl, hC3, hw3, _, hor⟩
      have HC3 : Hid (Chg F w w3) := HC2.out.gr hC3
      have HS3 : Hid (PDisk (Gr F w w3) w3 d S3 ∧ Chg F w w3 ∧ J.Rec S3 V ∧ S3.writes ≤ S.writes + ((j + 1 : Nat) : Int) * 2000) := by
        refine ⟨?_, HC3.out, ?_, by omega⟩
        · rcases hor with ⟨_, jb, _, h⟩ | ⟨_, _, h, _⟩
          · exact (J.jp_disk h).more (Gr.trans HC2.out.size hC3.size)
          · exact h.more (Gr.trans HC2.out.size hC3.size)
        · rcases hor with ⟨_, jb, _, h⟩ | ⟨_, _, _, h⟩
          · exact J.jp_rec h
          · exact h
      clear hor hC3 HC3 HC2 HD2 HR2
      go_wp2
      go_roundw
      case rel => exact ⟨j + 1, S3, by omega, by omega, by go_num, HS3.out⟩
      case measure => simp [intOf]; omega
    · have hle : ¬ ((j : Int) < cn ∧ (j : Int) < 20) := by omega
      have key : ∀ (Q : Prop), ((j : Int) < cn → ¬ (j : Int) < 20 → Q) → (¬ (j : Int) < cn → Q) → Q := fun Q h1 h2 => by
        by_cases h : (j : Int) < cn
        · exact h1 h (fun h' => hle ⟨h, h'⟩)
        · exact h2 h
      clear HI
      refine key _ (fun hc1 hc2 => ?_) (fun hc1 => ?_)
      all_goals
        go_wp2_with fail
        refine (up_c _ d S1 wr HS.out.1).mono ?_
        rintro _ w1 ⟨rfl, hD1, hO1⟩
        have hsz1 := hO1.size
        have HC1 : Hid (Chg F w w1) := HS.out.2.1.idem (hO1.toChg Hfd.out)
        have HD1 : Hid (PDisk (Gr F w w1) w1 d S1.up) := by
          show PDisk (Gr F w w1) w1 d S1.up
          unfold Gr
          rw [hsz1]
          exact hD1
        have HR1 : Hid (J.Rec S1.up V) := J.rec_l HS.out.2.2.1 rfl
        have hw1 : S1.up.writes ≤ S.writes + (j : Int) * 2000 := HS.out.2.2.2
        clear hD1 hO1 HS hsz1
        go_wp2_with fail
        refine (J.open_ _ d _ V w1 HD1.out (Gr.lt HF.out HC1.out.size) HR1.out (by omega)).mono ?_
        rintro _ w2 ⟨S2, jv, E, rfl, hC2, hw2, hst, hor⟩
        rcases hor with ⟨rfl, jb, rfl, h⟩ | ⟨_, h, _⟩
        · have R := HP.out w2 jb S2 (J.jp_more h (Gr.trans HC1.out.size hC2.size)) (hst.free ⟨rfl, rfl⟩) (HC1.out.gr hC2) (by omega)
          clear HP h hC2 hst HC1 HD1 HR1
          go_wp2
          exact R
        · exact absurd ⟨rfl, rfl⟩ h
end Go.Proofs.Ytjkeejbfipmidaa
