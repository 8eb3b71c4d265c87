/-
  Two disks of the program, apart.
-/
import Derived.Test.YtfpcfgfpebdplaaAwake
namespace Go.Proofs.Ytfpcfgfpebdplaa
open Go.RowKit Go.Maps

/-- Two disks from block B on, apart. -/
def Duo (B : Nat) (w : World) (d : Nat) (Sd : St) (e : Nat) (Se : St) : Prop := ∃ Fd Fe, PDisk Fd w d Sd ∧ PDisk Fe w e Se ∧ (∀ k, Fd k → B ≤ k ∧ k < w.heap.size ∧ ¬ Fe k) ∧ ∀ k, Fe k → B ≤ k ∧ k < w.heap.size
theorem Duo.swap {B : Nat} {w : World} {d e : Nat} {Sd Se : St} (h : Duo B w d Sd e Se) : Duo B w e Se d Sd := by
  obtain ⟨Fd, Fe, h1, h2, h3, h4⟩ := h
  exact ⟨Fe, Fd, h2, h1, fun k hk => ⟨(h4 k hk).1, (h4 k hk).2, fun hd => (h3 k hd).2.2 hk⟩, fun k hk => ⟨(h3 k hk).1, (h3 k hk).2.1⟩⟩
theorem Duo.hold {B : Nat} {w : World} {d e : Nat} {Sd Se : St} (h : Duo B w d Sd e Se) : ∃ Fe, Hold B Fe w d Sd ∧ PDisk Fe w e Se ∧ ∀ k, Fe k → B ≤ k ∧ k < w.heap.size := by
  obtain ⟨Fd, Fe, h1, h2, h3, h4⟩ := h
  exact ⟨Fe, ⟨Fd, h1, h3⟩, h2, h4⟩
theorem Duo.of {B : Nat} {w w' : World} {d e : Nat} {Sd Se : St} {Fe : Nat → Prop} (h1 : Hold B Fe w' d Sd) (h2 : PDisk Fe w e Se) (h4 : ∀ k, Fe k → B ≤ k ∧ k < w.heap.size) (hk : Kept B Fe w w') : Duo B w' d Sd e Se := by
  obtain ⟨Fd, hD, hF⟩ := h1
  exact ⟨Fd, Fe, hD, h2.keep (fun k hf => hk.block k (h4 k hf).2 (Or.inr hf)), hF, fun k hf => ⟨(h4 k hf).1, Nat.lt_of_lt_of_le (h4 k hf).2 hk.size⟩⟩
theorem Duo.inside {B : Nat} {w w' : World} {d e : Nat} {Sd Se : St} (h : Duo B w d Sd e Se) (hb : Below w.heap.size w w') : Duo B w' d Sd e Se := by
  obtain ⟨Fe, h1, h2, h3⟩ := h.hold
  exact Duo.of (h1.inside hb) h2 h3 (Kept.of_below hb)
theorem Duo.drew {B : Nat} {w : World} {d e : Nat} {Sd Se : St} (h : Duo B w d Sd e Se) : Duo B w.drew d Sd e Se := by
  obtain ⟨Fe, h1, h2, h3⟩ := h.hold
  exact Duo.of h1.drew h2 h3 ⟨rfl, rfl, rfl, Nat.le_refl _, fun _ _ _ => rfl⟩
theorem dwrite (B d e : Nat) (S Se : St) (f1 f2 f3 i : Int) (sa : Option Addr) (n sc : Nat) (bs : List Int) (hf : I64F (f1, f2, f3)) (w : World) (hD : Duo B w d S e Se) (hB : B ≤ w.heap.size) (hX : Bytes w sa n bs) (hw : S.writes < 1000000) :
    Calls Try.prog 19 #[.pointer (some ⟨d, 0, none⟩), .agg #[.int .i64 f1, .int .i64 f2, .int .i64 f3], .int .i64 i, .slice sa n sc] w fun E w' => E = .returned (.int .i64 (S.write (f1, f2, f3) i bs).1) ∧ Duo B w' d (S.write (f1, f2, f3) i bs).2 e Se ∧ Below B w w' := by
  obtain ⟨Fe, h1, h2, h3⟩ := hD.hold
  refine (hwrite B Fe d S f1 f2 f3 i sa n sc bs hf w h1 hB (fun k hk => (h3 k hk).2) hX hw).mono ?_
  rintro E w' ⟨rfl, h1', hk⟩
  exact ⟨rfl, Duo.of h1' h2 h3 hk, hk.below hB⟩
theorem dread (B d e : Nat) (S Se : St) (f1 f2 f3 i : Int) (hf : I64F (f1, f2, f3)) (hi : I64 i) (w : World) (hD : Duo B w d S e Se) :
    Calls Try.prog 21 #[.pointer (some ⟨d, 0, none⟩), .agg #[.int .i64 f1, .int .i64 f2, .int .i64 f3], .int .i64 i] w fun E w' => PReadSay (S.read (f1, f2, f3) i) w E w' ∧ Duo B w' d S e Se := by
  obtain ⟨Fe, h1, h2, h3⟩ := hD.hold
  refine (hread B Fe d S f1 f2 f3 i hf hi w h1).mono ?_
  rintro E w' ⟨h, h1'⟩
  exact ⟨h, hD.inside h.1⟩
theorem dcut (B d e : Nat) (S Se : St) (n : Int) (hn : -9223372036854775808 ≤ n ∧ n ≤ 9223372036854775807) (w : World) (hD : Duo B w d S e Se) (hB : B ≤ w.heap.size) : Calls Try.prog 18 #[.pointer (some ⟨d, 0, none⟩), .int .i64 n] w fun E w' => E = .returned (.tuple #[]) ∧ Duo B w' d (S.cut n) e Se ∧ Below B w w' := by
  obtain ⟨Fe, h1, h2, h3⟩ := hD.hold
  refine (hcut B Fe d S n hn w h1).mono ?_
  rintro E w' ⟨rfl, h1', hk⟩
  exact ⟨rfl, Duo.of h1' h2 h3 hk, hk.below hB⟩
theorem dup (B d e : Nat) (S Se : St) (w : World) (hD : Duo B w d S e Se) (hB : B ≤ w.heap.size) : Calls Try.prog 20 #[.pointer (some ⟨d, 0, none⟩)] w fun E w' => E = .returned (.tuple #[]) ∧ Duo B w' d S.up e Se ∧ Below B w w' := by
  obtain ⟨Fe, h1, h2, h3⟩ := hD.hold
  refine (hup B Fe d S w h1).mono ?_
  rintro E w' ⟨rfl, h1', hk⟩
  exact ⟨rfl, Duo.of h1' h2 h3 hk, hk.below hB⟩
theorem dwrites (B d e : Nat) (S Se : St) (w : World) (hD : Duo B w d S e Se) : Calls Try.prog 15 #[.pointer (some ⟨d, 0, none⟩)] w fun E w' => E = .returned (.int .i64 S.writes) ∧ w' = w := by
  obtain ⟨Fe, h1, h2, h3⟩ := hD.hold
  exact hwrites B Fe d S w h1
/-- Two new disks. -/
theorem Duo.new {B : Nat} {w1 w2 : World} {d e : Nat} {Sd : St} (h1 : Hold B (fun _ => False) w1 d Sd) (hb : Below w1.heap.size w1 w2) (h2 : Hold w1.heap.size (fun _ => False) w2 e St.new) (hB : B ≤ w1.heap.size) : Duo B w2 d Sd e St.new := by
  obtain ⟨Fd, hD, hF⟩ := h1
  obtain ⟨Fe, hE, hG⟩ := h2
  exact ⟨Fd, Fe, hD.keep (fun k hk => hb.block k (hF k hk).2.1), hE, fun k hk => ⟨(hF k hk).1, Nat.lt_of_lt_of_le (hF k hk).2.1 hb.size, fun he => by have := hF k hk; have := hG k he; omega⟩, fun k hk => ⟨Nat.le_trans hB (hG k hk).1, (hG k hk).2.1⟩⟩
/-- What Read answers, in one form. -/
theorem read_src {R : Int × List Int} {w w' : World} {e : Ending} (h : PReadSay R w e w') : ∃ a c, e = .returned (.tuple #[.slice a R.2.length c, .int .i64 R.1]) ∧ Src w' a R.2.length R.2 ∧ Below w.heap.size w w' := by
  obtain ⟨hb, ⟨h0, he⟩ | ⟨p, hp, he, hB, hl, hf⟩⟩ := h
  · refine ⟨none, 0, by rw [he, h0]; rfl, ?_, hb⟩
    rw [h0]
    exact ⟨rfl, fun k hk => absurd hk (Nat.not_lt_zero _), fun k => by simp⟩
  · exact ⟨some ⟨p, 0, none⟩, 32, by rw [he, hl], blk_src hB hf, hb⟩
theorem Src.later {w w' : World} {a : Option Addr} {n : Nat} {bs : List Int} (h : Src w a n bs) (hb : Below w.heap.size w w') : Src w' a n bs := h.on hb (Nat.le_refl _)
end Go.Proofs.Ytfpcfgfpebdplaa
