/-
  One disk beside blocks that are kept: each call once more.
-/
import Derived.Test.YtdjhlpllffakpaaPwrite
namespace Go.Proofs.Ytdjhlpllffakpaa
open Go.RowKit Go.Maps

/-- All below B, and the blocks of K, are as they were. -/
structure Kept (B : Nat) (K : Nat → Prop) (w w' : World) : Prop where
  os : w'.os = w.os
  tape : w'.tape = w.tape
  output : w'.output = w.output
  size : w.heap.size ≤ w'.heap.size
  block : ∀ k, k < w.heap.size → (k < B ∨ K k) → w'.heap[k]? = w.heap[k]?
theorem Kept.refl (B : Nat) (K : Nat → Prop) (w : World) : Kept B K w w := ⟨rfl, rfl, rfl, Nat.le_refl _, fun _ _ _ => rfl⟩
theorem Kept.trans {B : Nat} {K : Nat → Prop} {a b c : World} (h : Kept B K a b) (k : Kept B K b c) : Kept B K a c :=
  ⟨k.os.trans h.os, k.tape.trans h.tape, k.output.trans h.output, Nat.le_trans h.size k.size, fun j hj hK => (k.block j (Nat.lt_of_lt_of_le hj h.size) hK).trans (h.block j hj hK)⟩
theorem Kept.of_below {B : Nat} {K : Nat → Prop} {w w' : World} (h : Below w.heap.size w w') : Kept B K w w' := ⟨h.os, h.tape, h.output, h.size, fun k hk _ => h.block k hk⟩
theorem Kept.below {B : Nat} {K : Nat → Prop} {w w' : World} (h : Kept B K w w') (hB : B ≤ w.heap.size) : Below B w w' := ⟨h.os, h.tape, h.output, h.size, fun k hk => h.block k (by omega) (Or.inl hk)⟩
theorem Kept.less {B : Nat} {K K' : Nat → Prop} {w w' : World} (h : Kept B K w w') (hK : ∀ k, K' k → K k) : Kept B K' w w' := ⟨h.os, h.tape, h.output, h.size, fun k hk hk' => h.block k hk (hk'.imp id (hK k))⟩
/-- A disk, apart from K, from block B on. -/
def Hold (B : Nat) (K : Nat → Prop) (w : World) (g : Nat) (S : St) : Prop := ∃ F, PDisk F w g S ∧ ∀ k, F k → B ≤ k ∧ k < w.heap.size ∧ ¬ K k
theorem Hold.inside {B : Nat} {K : Nat → Prop} {w w' : World} {g : Nat} {S : St} (h : Hold B K w g S) (hb : Below w.heap.size w w') : Hold B K w' g S := by
  obtain ⟨F, hD, hF⟩ := h
  refine ⟨F, hD.keep (fun k hk => hb.block k (hF k hk).2.1), fun k hk => ⟨(hF k hk).1, Nat.lt_of_lt_of_le (hF k hk).2.1 hb.size, (hF k hk).2.2⟩⟩
theorem Hold.drewN {B : Nat} {K : Nat → Prop} {w : World} {g : Nat} {S : St} (h : Hold B K w g S) (n : Nat) : Hold B K (w.drewN n) g S := by
  obtain ⟨F, hD, hF⟩ := h
  exact ⟨F, hD.keep (fun _ _ => rfl), hF⟩
theorem Hold.drew {B : Nat} {K : Nat → Prop} {w : World} {g : Nat} {S : St} (h : Hold B K w g S) : Hold B K w.drew g S := h.drewN 1
theorem Hold.less {B : Nat} {K K' : Nat → Prop} {w : World} {g : Nat} {S : St} (h : Hold B K w g S) (hK : ∀ k, K' k → K k) : Hold B K' w g S := by
  obtain ⟨F, hD, hF⟩ := h
  exact ⟨F, hD, fun k hk => ⟨(hF k hk).1, (hF k hk).2.1, fun h => (hF k hk).2.2 (hK k h)⟩⟩
/-- A new block is kept too. -/
theorem Hold.more {B : Nat} {K : Nat → Prop} {w w' : World} {g : Nat} {S : St} (h : Hold B K w g S) (hb : Below w.heap.size w w') : Hold B (fun k => K k ∨ w.heap.size ≤ k) w' g S := by
  obtain ⟨F, hD, hF⟩ := h
  refine ⟨F, hD.keep (fun k hk => hb.block k (hF k hk).2.1), fun k hk => ⟨(hF k hk).1, Nat.lt_of_lt_of_le (hF k hk).2.1 hb.size, fun h => ?_⟩⟩
  have := hF k hk
  rcases h with h | h
  · exact this.2.2 h
  · omega
/-- What is kept does not touch the disk. -/
theorem Hold.apart {B : Nat} {K : Nat → Prop} {w w' : World} {g : Nat} {S : St} (h : Hold B K w g S) (hs : w.heap.size ≤ w'.heap.size) (hk : ∀ k, k < w.heap.size → ¬ K k → w'.heap[k]? = w.heap[k]?) : Hold B K w' g S := by
  obtain ⟨F, hD, hF⟩ := h
  exact ⟨F, hD.keep (fun k hf => hk k (hF k hf).2.1 (hF k hf).2.2), fun k hf => ⟨(hF k hf).1, Nat.lt_of_lt_of_le (hF k hf).2.1 hs, (hF k hf).2.2⟩⟩
theorem Hold.glt {B : Nat} {K : Nat → Prop} {w : World} {g : Nat} {S : St} (h : Hold B K w g S) : B ≤ g ∧ g < w.heap.size ∧ ¬ K g := by
  obtain ⟨F, ⟨mb, ml, hD⟩, hF⟩ := h
  exact hF g hD.inF
theorem Hold.good {B : Nat} {K : Nat → Prop} {w : World} {g : Nat} {S : St} (h : Hold B K w g S) : Good S.l := by
  obtain ⟨F, ⟨mb, ml, hD⟩, hF⟩ := h
  exact hD.ok
theorem kept_chg {B : Nat} {K F : Nat → Prop} {w w' : World} (h : Chg F w w') (hF : ∀ k, F k → B ≤ k ∧ k < w.heap.size ∧ ¬ K k) : Kept B K w w' :=
  ⟨h.os, h.tape, h.output, h.size, fun k hk hK => h.block k hk (fun hf => by
    have := hF k hf
    rcases hK with h1 | h1
    · omega
    · exact this.2.2 h1)⟩
theorem kept_only {B g : Nat} {K : Nat → Prop} {w w' : World} (h : Only g w w') (hg : B ≤ g ∧ ¬ K g) : Kept B K w w' :=
  ⟨h.os, h.tape, h.output, Nat.le_of_eq h.size.symm, fun k _ hK => h.block k (fun e => by
    subst e
    rcases hK with h1 | h1
    · omega
    · exact hg.2 h1)⟩
theorem hnew (B : Nat) (K : Nat → Prop) (w : World) (hB : B ≤ w.heap.size) (hK : ∀ k, K k → k < w.heap.size) : Calls Try.prog 12 #[] w fun e w' => ∃ g, e = .returned (.pointer (some ⟨g, 0, none⟩)) ∧ Hold B K w' g St.new ∧ Below w.heap.size w w' :=
  (new_c w).mono fun e w' ⟨⟨g, F, he, hD, h1, h2⟩, hb⟩ => ⟨g, he, ⟨F, hD, fun k hk => ⟨Nat.le_trans hB (h1 k hk), h2 k hk, fun hk' => by have := hK k hk'; have := h1 k hk; omega⟩⟩, hb⟩
theorem hwrite (B : Nat) (K : Nat → Prop) (g : Nat) (S : St) (f1 f2 f3 i : Int) (sa : Option Addr) (n sc : Nat) (bs : List Int) (hf : I64F (f1, f2, f3)) (w : World) (hD : Hold B K w g S) (hB : B ≤ w.heap.size) (hK : ∀ k, K k → k < w.heap.size) (hX : Bytes w sa n bs) (hw : S.writes < 1000000) :
    Calls Try.prog 13 #[.pointer (some ⟨g, 0, none⟩), .agg #[.int .i64 f1, .int .i64 f2, .int .i64 f3], .int .i64 i, .slice sa n sc] w fun e w' => e = .returned (.int .i64 (S.write (f1, f2, f3) i bs).1) ∧ Hold B K w' g (S.write (f1, f2, f3) i bs).2 ∧ Kept B K w w' := by
  obtain ⟨F, hD, hF⟩ := hD
  refine (write_c F g S f1 f2 f3 i sa n sc bs hf w hD (fun k hk => (hF k hk).2.1) hX hw).mono ?_
  rintro e w' ⟨rfl, hD', hC⟩
  refine ⟨rfl, ⟨_, hD', fun k hk => ?_⟩, kept_chg hC hF⟩
  have hs := hC.size
  rcases hk with h | h
  · have := hF k h
    exact ⟨this.1, by omega, this.2.2⟩
  · exact ⟨by omega, h.2, fun h' => by have := hK k h'; omega⟩
theorem hread (B : Nat) (K : Nat → Prop) (g : Nat) (S : St) (f1 f2 f3 i : Int) (hf : I64F (f1, f2, f3)) (hi : I64 i) (w : World) (hD : Hold B K w g S) :
    Calls Try.prog 41 #[.pointer (some ⟨g, 0, none⟩), .agg #[.int .i64 f1, .int .i64 f2, .int .i64 f3], .int .i64 i] w fun e w' => PReadSay (S.read (f1, f2, f3) i) w e w' ∧ Hold B K w' g S := by
  obtain ⟨F, hD, hF⟩ := hD
  exact (read_c F g S f1 f2 f3 i hf hi w hD).mono fun e w' h => ⟨h, Hold.inside ⟨F, hD, hF⟩ h.1⟩
theorem hcut (B : Nat) (K : Nat → Prop) (g : Nat) (S : St) (n : Int) (hn : -9223372036854775808 ≤ n ∧ n ≤ 9223372036854775807) (w : World) (hD : Hold B K w g S) : Calls Try.prog 16 #[.pointer (some ⟨g, 0, none⟩), .int .i64 n] w fun e w' => e = .returned (.tuple #[]) ∧ Hold B K w' g (S.cut n) ∧ Kept B K w w' := by
  have hg := hD.glt
  obtain ⟨F, hD, hF⟩ := hD
  refine (cut_c F g S n hn w hD).mono ?_
  rintro e w' ⟨rfl, hD', hO⟩
  exact ⟨rfl, ⟨F, hD', fun k hk => ⟨(hF k hk).1, by rw [hO.size]; exact (hF k hk).2.1, (hF k hk).2.2⟩⟩, kept_only hO ⟨hg.1, hg.2.2⟩⟩
theorem hon (B : Nat) (K : Nat → Prop) (g : Nat) (S : St) (w : World) (hD : Hold B K w g S) : Calls Try.prog 27 #[.pointer (some ⟨g, 0, none⟩)] w fun e w' => e = .returned (.bool (!S.out)) ∧ w' = w := by
  obtain ⟨F, hD, hF⟩ := hD
  exact on_c F g S w hD
section
variable {P : Program} {ops : Array Oper} {Q : Exit → Act → World → Prop} {md : Region.Mode} {S S' : World → Prop} {n : Nat}
/-- The class may be made narrower. -/
theorem strong_L (h : ∀ w, S' w → S w) : ∀ (fuel : Nat) (listed : Array Bool) (a : Act) (w : World), wpAnyL P md ops Q S' n fuel listed a w → wpAnyL P md ops Q S n fuel listed a w
  | 0, _, _, _, H => H
  | fuel + 1, _, _, _, H => ⟨H.1, fun i hi => wpOp_mono (fun a' w' h' => ⟨fun hn => h _ (h'.1 hn), strong_L h fuel _ a' w' h'.2⟩) (H.2 i hi)⟩
end
end Go.Proofs.Ytdjhlpllffakpaa
