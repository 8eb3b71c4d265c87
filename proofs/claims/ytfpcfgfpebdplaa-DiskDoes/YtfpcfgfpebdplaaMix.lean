/-
  The program's disk and the document's, apart.
-/
import Derived.Test.YtfpcfgfpebdplaaHeldn
namespace Go.Proofs.Ytfpcfgfpebdplaa
open Go.RowKit Go.Maps

/-- The program's disk d and the document's disk r from block B on, apart. -/
def Mix (B : Nat) (w : World) (d : Nat) (Sd : St) (r : Nat) (Sr : St) : Prop := ∃ Fd Fr, PDisk Fd w d Sd ∧ RDisk Fr w r Sr ∧ (∀ k, Fd k → B ≤ k ∧ k < w.heap.size ∧ ¬ Fr k) ∧ ∀ k, Fr k → B ≤ k ∧ k < w.heap.size
theorem Mix.same {B : Nat} {w w' : World} {d r : Nat} {Sd Sr : St} (h : Mix B w d Sd r Sr) (hs : w.heap.size ≤ w'.heap.size) (lo : Nat) (hlo : w.heap.size ≤ lo) (hk : ∀ k, k < lo → w'.heap[k]? = w.heap[k]?) : Mix B w' d Sd r Sr := by
  obtain ⟨Fd, Fr, h1, h2, h3, h4⟩ := h
  exact ⟨Fd, Fr, h1.keep (fun k hf => hk k (by have := (h3 k hf).2.1; omega)), h2.keep (fun k hf => hk k (by have := (h4 k hf).2; omega)), fun k hf => ⟨(h3 k hf).1, by have := (h3 k hf).2.1; omega, (h3 k hf).2.2⟩, fun k hf => ⟨(h4 k hf).1, by have := (h4 k hf).2; omega⟩⟩
theorem Mix.inside {B : Nat} {w w' : World} {d r : Nat} {Sd Sr : St} (h : Mix B w d Sd r Sr) (hb : Below w.heap.size w w') : Mix B w' d Sd r Sr := h.same hb.size w.heap.size (Nat.le_refl _) (fun k hk => hb.block k hk)
theorem Mix.drew {B : Nat} {w : World} {d r : Nat} {Sd Sr : St} (h : Mix B w d Sd r Sr) : Mix B w.drew d Sd r Sr := h.same (Nat.le_refl _) w.heap.size (Nat.le_refl _) (fun _ _ => rfl)
theorem Mix.drewN {B : Nat} {w : World} {d r : Nat} {Sd Sr : St} (h : Mix B w d Sd r Sr) (n : Nat) : Mix B (w.drewN n) d Sd r Sr := h.same (Nat.le_refl _) w.heap.size (Nat.le_refl _) (fun _ _ => rfl)
/-- The program's disk, the document's kept. -/
theorem Mix.hold {B : Nat} {w : World} {d r : Nat} {Sd Sr : St} (h : Mix B w d Sd r Sr) : ∃ Fr, Hold B Fr w d Sd ∧ RDisk Fr w r Sr ∧ ∀ k, Fr k → B ≤ k ∧ k < w.heap.size := by
  obtain ⟨Fd, Fr, h1, h2, h3, h4⟩ := h
  exact ⟨Fr, ⟨Fd, h1, h3⟩, h2, h4⟩
theorem Mix.of {B : Nat} {w w' : World} {d r : Nat} {Sd Sr : St} {Fr : Nat → Prop} (h1 : Hold B Fr w' d Sd) (h2 : RDisk Fr w r Sr) (h4 : ∀ k, Fr k → B ≤ k ∧ k < w.heap.size) (hk : Kept B Fr w w') : Mix B w' d Sd r Sr := by
  obtain ⟨Fd, hD, hF⟩ := h1
  exact ⟨Fd, Fr, hD, h2.keep (fun k hf => hk.block k (h4 k hf).2 (Or.inr hf)), hF, fun k hf => ⟨(h4 k hf).1, Nat.lt_of_lt_of_le (h4 k hf).2 hk.size⟩⟩
/-- The document's disk, the program's kept. -/
theorem Mix.turn {B : Nat} {w w' : World} {d r : Nat} {Sd Sr Sr' : St} (h : Mix B w d Sd r Sr) (hR : ∀ Fr, RDisk Fr w r Sr → (∀ k, Fr k → B ≤ k ∧ k < w.heap.size) → ∃ Fr', RDisk Fr' w' r Sr' ∧ (∀ k, Fr' k → Fr k ∨ (w.heap.size ≤ k ∧ k < w'.heap.size)) ∧ Chg Fr w w') : Mix B w' d Sd r Sr' ∧ (B ≤ w.heap.size → Below B w w') := by
  obtain ⟨Fd, Fr, h1, h2, h3, h4⟩ := h
  obtain ⟨Fr', hD', hF', hC⟩ := hR Fr h2 h4
  have hs := hC.size
  refine ⟨⟨Fd, Fr', h1.keep (fun k hf => hC.block k (h3 k hf).2.1 (h3 k hf).2.2), hD', fun k hf => ⟨(h3 k hf).1, by have := (h3 k hf).2.1; omega, fun hf' => ?_⟩, fun k hf => ?_⟩, fun hB => hC.below (fun k hf => (h4 k hf).1) hB⟩
  · rcases hF' k hf' with h | h
    · exact (h3 k hf).2.2 h
    · have := (h3 k hf).2.1
      omega
  · rcases hF' k hf with h | h
    · exact ⟨(h4 k h).1, by have := (h4 k h).2; omega⟩
    · obtain ⟨g, hg⟩ : ∃ g, Fr g := by
        obtain ⟨a, c, q, hh⟩ := h2
        exact ⟨r, hh.inF.1⟩
      have := h4 g hg
      exact ⟨by omega, h.2⟩
theorem Mix.dlt {B : Nat} {w : World} {d r : Nat} {Sd S : St} (h : Mix B w d Sd r S) : d < w.heap.size ∧ B ≤ d ∧ r < w.heap.size ∧ B ≤ r := by
  obtain ⟨Fd, Fr, ⟨mb, ml, h1⟩, ⟨a, c, q, h2⟩, h3, h4⟩ := h
  exact ⟨(h3 d h1.inF).2.1, (h3 d h1.inF).1, (h4 r h2.inF.1).2, (h4 r h2.inF.1).1⟩
theorem mcut_d (B d r : Nat) (S Sr : St) (n : Int) (hn : I64 n) (w : World) (hM : Mix B w d S r Sr) : Calls Try.prog 18 #[.pointer (some ⟨d, 0, none⟩), .int .i64 n] w fun E w' => E = .returned (.tuple #[]) ∧ Mix B w' d (S.cut n) r Sr ∧ Below B w w' ∧ Only d w w' := by
  have hd := hM.dlt
  obtain ⟨Fd, Fr, h1, h2, h3, h4⟩ := hM
  refine (cut_c Fd d S n hn w h1).mono ?_
  rintro E w' ⟨rfl, h1', hO⟩
  have hdF : Fd d := by obtain ⟨mb, ml, hh⟩ := h1; exact hh.inF
  exact ⟨rfl, ⟨Fd, Fr, h1', h2.keep (fun k hf => hO.block k (fun e => (h3 d hdF).2.2 (e ▸ hf))), fun k hf => ⟨(h3 k hf).1, by rw [hO.size]; exact (h3 k hf).2.1, (h3 k hf).2.2⟩, fun k hf => ⟨(h4 k hf).1, by rw [hO.size]; exact (h4 k hf).2⟩⟩, hO.below hd.2.1, hO⟩
theorem mup_d (B d r : Nat) (S Sr : St) (w : World) (hM : Mix B w d S r Sr) : Calls Try.prog 20 #[.pointer (some ⟨d, 0, none⟩)] w fun E w' => E = .returned (.tuple #[]) ∧ Mix B w' d S.up r Sr ∧ Below B w w' ∧ Only d w w' := by
  have hd := hM.dlt
  obtain ⟨Fd, Fr, h1, h2, h3, h4⟩ := hM
  refine (up_c Fd d S w h1).mono ?_
  rintro E w' ⟨rfl, h1', hO⟩
  have hdF : Fd d := by obtain ⟨mb, ml, hh⟩ := h1; exact hh.inF
  exact ⟨rfl, ⟨Fd, Fr, h1', h2.keep (fun k hf => hO.block k (fun e => (h3 d hdF).2.2 (e ▸ hf))), fun k hf => ⟨(h3 k hf).1, by rw [hO.size]; exact (h3 k hf).2.1, (h3 k hf).2.2⟩, fun k hf => ⟨(h4 k hf).1, by rw [hO.size]; exact (h4 k hf).2⟩⟩, hO.below hd.2.1, hO⟩
theorem only_chg {g : Nat} {F : Nat → Prop} {w w' : World} (h : Only g w w') (hg : F g) : Chg F w w' := h.chg hg
theorem mcut_r (B d r : Nat) (Sd S : St) (n : Int) (hn : I64 n) (w : World) (hM : Mix B w d Sd r S) (hB : B ≤ w.heap.size) : Calls Try.prog 25 #[.pointer (some ⟨r, 0, none⟩), .int .i64 n] w fun E w' => E = .returned (.tuple #[]) ∧ Mix B w' d Sd r (S.cut n) ∧ Below B w w' := by
  obtain ⟨Fd, Fr, h1, h2, h3, h4⟩ := hM
  refine (rcut_c Fr r S n hn w h2).mono ?_
  rintro E w' ⟨rfl, h2', hO⟩
  have hg : Fr r := by obtain ⟨a, c, q, hh⟩ := h2; exact hh.inF.1
  have hC := only_chg (F := Fr) hO hg
  refine ⟨rfl, ⟨Fd, Fr, h1.keep (fun k hf => hC.block k (h3 k hf).2.1 (h3 k hf).2.2), h2', fun k hf => ⟨(h3 k hf).1, by rw [hO.size]; exact (h3 k hf).2.1, (h3 k hf).2.2⟩, fun k hf => ⟨(h4 k hf).1, by rw [hO.size]; exact (h4 k hf).2⟩⟩, hC.below (fun k hf => (h4 k hf).1) hB⟩
theorem mup_r (B d r : Nat) (Sd S : St) (w : World) (hM : Mix B w d Sd r S) (hB : B ≤ w.heap.size) : Calls Try.prog 26 #[.pointer (some ⟨r, 0, none⟩)] w fun E w' => E = .returned (.tuple #[]) ∧ Mix B w' d Sd r S.up ∧ Below B w w' := by
  obtain ⟨Fd, Fr, h1, h2, h3, h4⟩ := hM
  refine (rup_c Fr r S w h2).mono ?_
  rintro E w' ⟨rfl, h2', hO⟩
  have hg : Fr r := by obtain ⟨a, c, q, hh⟩ := h2; exact hh.inF.1
  have hC := only_chg (F := Fr) hO hg
  refine ⟨rfl, ⟨Fd, Fr, h1.keep (fun k hf => hC.block k (h3 k hf).2.1 (h3 k hf).2.2), h2', fun k hf => ⟨(h3 k hf).1, by rw [hO.size]; exact (h3 k hf).2.1, (h3 k hf).2.2⟩, fun k hf => ⟨(h4 k hf).1, by rw [hO.size]; exact (h4 k hf).2⟩⟩, hC.below (fun k hf => (h4 k hf).1) hB⟩
/-- The program's Write, blocks from lo to hi kept too. -/
theorem mwrite_d (B d r : Nat) (S Sr : St) (lo : Nat) (f1 f2 f3 i : Int) (sa : Option Addr) (n sc : Nat) (bs : List Int) (hf : I64F (f1, f2, f3)) (w0 w : World) (hM : Mix B w0 d S r Sr) (hb : Below w0.heap.size w0 w) (hlo : w0.heap.size ≤ lo) (hB : B ≤ w.heap.size) (hX : Bytes w sa n bs) (hw : S.writes < 1000000) :
    Calls Try.prog 19 #[.pointer (some ⟨d, 0, none⟩), .agg #[.int .i64 f1, .int .i64 f2, .int .i64 f3], .int .i64 i, .slice sa n sc] w fun E w' => E = .returned (.int .i64 (S.write (f1, f2, f3) i bs).1) ∧ Below B w w' ∧ (∀ k, w0.heap.size ≤ k → k < w.heap.size → w'.heap[k]? = w.heap[k]?) ∧
      ∀ w'', w''.heap.size = w'.heap.size → (∀ k, ¬ (lo ≤ k ∧ k < w.heap.size) → w''.heap[k]? = w'.heap[k]?) → Mix B w'' d (S.write (f1, f2, f3) i bs).2 r Sr := by
  obtain ⟨Fr, h1, h2, h3⟩ := hM.hold
  have hH : Hold B (fun k => Fr k ∨ (w0.heap.size ≤ k ∧ k < w.heap.size)) w d S := (h1.more hb).less (fun k h => h.imp id (fun h => h.1))
  refine (hwrite B (fun k => Fr k ∨ (w0.heap.size ≤ k ∧ k < w.heap.size)) d S f1 f2 f3 i sa n sc bs hf w hH hB (fun k hk => hk.elim (fun h => Nat.lt_of_lt_of_le (h3 k h).2 hb.size) (fun h => h.2)) hX hw).mono ?_
  rintro E w' ⟨rfl, h1', hk⟩
  refine ⟨rfl, hk.below hB, fun k a b => hk.block k b (Or.inr (Or.inr ⟨a, b⟩)), fun w'' hs hsame => ?_⟩
  have hH'' : Hold B (fun k => Fr k ∨ (w0.heap.size ≤ k ∧ k < w.heap.size)) w'' d (S.write (f1, f2, f3) i bs).2 := h1'.apart (Nat.le_of_eq hs.symm) (fun k _ hn => hsame k (fun h => hn (Or.inr ⟨by omega, h.2⟩)))
  have hR'' : RDisk Fr w'' r Sr := h2.keep (fun k hf => by
    have := h3 k hf
    have hsz := hb.size
    rw [hsame k (fun h => by omega), hk.block k (by omega) (Or.inr (Or.inl hf))]
    exact hb.block k this.2)
  obtain ⟨Fd, hD, hF⟩ := hH''
  have h5 := hk.size
  have h6 := hb.size
  exact ⟨Fd, Fr, hD, hR'', fun k hf => ⟨(hF k hf).1, (hF k hf).2.1, fun hr => (hF k hf).2.2 (Or.inl hr)⟩, fun k hf => ⟨(h3 k hf).1, by have := (h3 k hf).2; omega⟩⟩
theorem mwrite_r (B d r : Nat) (Sd S : St) (f1 f2 f3 i : Int) (sa : Option Addr) (n sc : Nat) (bs : List Int) (w : World) (hM : Mix B w d Sd r S) (hB : B ≤ w.heap.size) (hX : Bytes w sa n bs) (hlw : S.l.length < 1000000 ∧ S.writes < 1000000) (hn : n < 140737488355328) :
    Calls Try.prog 23 #[.pointer (some ⟨r, 0, none⟩), .agg #[.int .i64 f1, .int .i64 f2, .int .i64 f3], .int .i64 i, .slice sa n sc] w fun E w' => E = .returned (.int .i64 (S.write (f1, f2, f3) i bs).1) ∧ Mix B w' d Sd r (S.write (f1, f2, f3) i bs).2 ∧ Below B w w' := by
  obtain ⟨Fd, Fr, h1, h2, h3, h4⟩ := hM
  refine (rwrite_c Fr r S f1 f2 f3 i sa n sc bs w h2 hX hlw hn).mono ?_
  rintro E w' ⟨rfl, h2', hC⟩
  have hs := hC.size
  have hg : Fr r := by obtain ⟨a, c, q, hh⟩ := h2; exact hh.inF.1
  have hgb := h4 r hg
  refine ⟨rfl, ⟨Fd, _, h1.keep (fun k hf => hC.block k (h3 k hf).2.1 (h3 k hf).2.2), h2', fun k hf => ⟨(h3 k hf).1, by have := (h3 k hf).2.1; omega, fun hf' => ?_⟩, fun k hf => ?_⟩, hC.below (fun k hf => (h4 k hf).1) hB⟩
  · rcases hf' with h | h
    · exact (h3 k hf).2.2 h
    · have := (h3 k hf).2.1
      omega
  · rcases hf with h | h
    · exact ⟨(h4 k h).1, by have := (h4 k h).2; omega⟩
    · exact ⟨by omega, h.2⟩
theorem mread_d (B d r : Nat) (S Sr : St) (f1 f2 f3 i : Int) (hf : I64F (f1, f2, f3)) (hi : I64 i) (w : World) (hM : Mix B w d S r Sr) :
    Calls Try.prog 21 #[.pointer (some ⟨d, 0, none⟩), .agg #[.int .i64 f1, .int .i64 f2, .int .i64 f3], .int .i64 i] w (PReadSay (S.read (f1, f2, f3) i) w) := by
  obtain ⟨Fd, Fr, h1, h2, h3, h4⟩ := hM
  exact read_c Fd d S f1 f2 f3 i hf hi w h1
theorem mread_r (B d r : Nat) (Sd S : St) (f1 f2 f3 i : Int) (w : World) (hM : Mix B w d Sd r S) :
    Calls Try.prog 24 #[.pointer (some ⟨r, 0, none⟩), .agg #[.int .i64 f1, .int .i64 f2, .int .i64 f3], .int .i64 i] w (ReadSay (S.read (f1, f2, f3) i) w) := by
  obtain ⟨Fd, Fr, h1, h2, h3, h4⟩ := hM
  exact rread_c Fr r S f1 f2 f3 i w h2
theorem mfiles_d (B d r : Nat) (S Sr : St) (w : World) (hM : Mix B w d S r Sr) :
    Calls Try.prog 12 #[.pointer (some ⟨d, 0, none⟩)] w fun e w' => ∃ a n c, e = .returned (.slice a n c) ∧ Fls w' a n (filesOf (at_ S.l)) ∧ Below w.heap.size w w' := by
  obtain ⟨Fd, Fr, h1, h2, h3, h4⟩ := hM
  exact pfiles_c Fd d S w h1
theorem mfiles_r (B d r : Nat) (Sd S : St) (w : World) (hM : Mix B w d Sd r S) :
    Calls Try.prog 13 #[.pointer (some ⟨r, 0, none⟩)] w fun e w' => ∃ a n c, e = .returned (.slice a n c) ∧ Fls w' a n (filesOf (at_ S.l)) ∧ Below w.heap.size w w' := by
  obtain ⟨Fd, Fr, h1, h2, h3, h4⟩ := hM
  exact rfiles_c Fr r S w h2
theorem mon (B d r : Nat) (S Sr : St) (w : World) (hM : Mix B w d S r Sr) : Calls Try.prog 14 #[.pointer (some ⟨d, 0, none⟩)] w fun e w' => e = .returned (.bool (!S.out)) ∧ w' = w := by
  obtain ⟨Fd, Fr, h1, h2, h3, h4⟩ := hM
  exact on_c Fd d S w h1
theorem mwrites (B d r : Nat) (S Sr : St) (w : World) (hM : Mix B w d S r Sr) : Calls Try.prog 15 #[.pointer (some ⟨d, 0, none⟩)] w fun e w' => e = .returned (.int .i64 S.writes) ∧ w' = w := by
  obtain ⟨Fd, Fr, h1, h2, h3, h4⟩ := hM
  exact writes_c Fd d S w h1
theorem mlen_d (B d r : Nat) (S Sr : St) (f1 f2 f3 : Int) (hf : I64F (f1, f2, f3)) (w : World) (hM : Mix B w d S r Sr) :
    Calls Try.prog 16 #[.pointer (some ⟨d, 0, none⟩), .agg #[.int .i64 f1, .int .i64 f2, .int .i64 f3]] w fun e w' => e = .returned (.int .i64 (lenOf (at_ S.l) (f1, f2, f3))) ∧ Below w.heap.size w w' := by
  obtain ⟨Fd, Fr, h1, h2, h3, h4⟩ := hM
  exact len_c Fd d S f1 f2 f3 hf w h1
theorem Mix.rcells {B : Nat} {w : World} {d r : Nat} {Sd S : St} (h : Mix B w d Sd r S) : w.cell? ⟨r, 1, none⟩ = some (.bool S.out) ∧ w.cell? ⟨r, 4, none⟩ = some (.int .i64 S.writes) := by
  obtain ⟨Fd, Fr, h1, ⟨a, c, q, h2⟩, h3, h4⟩ := h
  exact ⟨h2.cell1.1, h2.cell1.2.2.2⟩
theorem Mix.new {B : Nat} {w1 w2 : World} {d r : Nat} {Sd : St} {Fr : Nat → Prop} (h1 : Hold B (fun _ => False) w1 d Sd) (hb : Below w1.heap.size w1 w2) (h2 : RDisk Fr w2 r St.new) (hF1 : ∀ k, Fr k → w1.heap.size ≤ k) (hF2 : ∀ k, Fr k → k < w2.heap.size) (hB : B ≤ w1.heap.size) : Mix B w2 d Sd r St.new := by
  obtain ⟨Fd, hD, hF⟩ := h1
  exact ⟨Fd, Fr, hD.keep (fun k hk => hb.block k (hF k hk).2.1), h2, fun k hk => ⟨(hF k hk).1, Nat.lt_of_lt_of_le (hF k hk).2.1 hb.size, fun he => by have := hF k hk; have := hF1 k he; omega⟩, fun k hk => ⟨Nat.le_trans hB (hF1 k hk), hF2 k hk⟩⟩
end Go.Proofs.Ytfpcfgfpebdplaa
