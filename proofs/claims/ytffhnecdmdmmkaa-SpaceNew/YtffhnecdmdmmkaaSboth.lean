/-
  The program's space and the document's side by side.
-/
import Derived.Test.YtffhnecdmdmmkaaHeld
set_option maxRecDepth 20000
namespace Go.Proofs.Ytffhnecdmdmmkaa
open Go.RowKit

structure Both (J : SSpec) (F : Nat → Prop) (w1 w : World) (g rg tb hd : Nat) (T U : List Bool) : Prop where
  sk : Sk J F w1 w g hd T
  rs : RS w rg tb hd U
  nf : ¬ F rg ∧ ¬ F tb
  lo : w1.heap.size ≤ rg ∧ w1.heap.size ≤ tb
section
variable {J : SSpec} {F : Nat → Prop} {w1 w : World} {g rg tb hd : Nat} {T U : List Bool}
theorem Both.on {w' : World} (H : Both J F w1 w g rg tb hd T U) (hb : Below w.heap.size w w') : Both J F w1 w' g rg tb hd T U := ⟨H.sk.on hb, H.rs.on hb, H.nf, H.lo⟩
theorem Both.stp {F' : Nat → Prop} {w' : World} {T' : List Bool} (H : Both J F w1 w g rg tb hd T U) (hS : Sk J F' w1 w' g hd T') (hT : Stp F w F' w') : Both J F' w1 w' g rg tb hd T' U := by
  obtain ⟨h1, h2, h3⟩ := H.rs.stp hT H.nf.1 H.nf.2
  exact ⟨hS, h1, ⟨h2, h3⟩, H.lo⟩
theorem Both.chg {w' : World} {U' : List Bool} (H : Both J F w1 w g rg tb hd T U) (hC : Chg (fun k => k = tb) w w') (hR : RS w' rg tb hd U') : Both J F w1 w' g rg tb hd T U' := ⟨H.sk.chg hC H.nf.2 H.lo.2, hR, H.nf, H.lo⟩
/-- A block that is neither's is another one. -/
theorem Both.only {xb : Nat} {w' : World} (H : Both J F w1 w g rg tb hd T U) (hO : Only xb w w') (hx : ¬ F xb ∧ xb ≠ rg ∧ xb ≠ tb ∧ w1.heap.size ≤ xb) : Both J F w1 w' g rg tb hd T U := by
  have hC : Chg (fun k => k = xb) w w' := ⟨hO.os, hO.tape, hO.output, Nat.le_of_eq hO.size.symm, fun k _ hk => hO.block k hk⟩
  refine ⟨H.sk.chg hC hx.1 hx.2.2.2, ⟨(hO.block rg (Ne.symm hx.2.1)).trans H.rs.head, (hO.block tb (Ne.symm hx.2.2.1)).trans H.rs.row, H.rs.ne, H.rs.le, H.rs.few⟩, H.nf, H.lo⟩
theorem btake (H : Both J F w1 w g rg tb hd T U) (n : Int) (hn : I64 n) : Calls Try.prog 14 #[.pointer (some ⟨g, 0, none⟩), .int .i64 n] w fun e w' => e = .returned (.tuple #[.int .i64 (tkS hd T n).1, .int .i64 (tkS hd T n).2.1]) ∧ ∃ F', Both J F' w1 w' g rg tb hd (tkS hd T n).2.2 U := by
  refine (stake H.sk n hn).mono ?_
  rintro e w' ⟨he, F', hS, hT⟩
  exact ⟨he, F', H.stp hS hT⟩
theorem bmark (H : Both J F w1 w g rg tb hd T U) (f m : Int) (hf : I64 f) (hm : I64 m) : Calls Try.prog 16 #[.pointer (some ⟨g, 0, none⟩), .agg #[.int .i64 f, .int .i64 m]] w fun e w' => e = .returned (.int .i64 (erS hd T f m false)) ∧ ∃ F', Both J F' w1 w' g rg tb hd (doS hd T f m false true) U := by
  refine (smark H.sk f m hf hm).mono ?_
  rintro e w' ⟨he, F', hS, hT⟩
  exact ⟨he, F', H.stp hS hT⟩
theorem bfree (H : Both J F w1 w g rg tb hd T U) (f m : Int) (hf : I64 f) (hm : I64 m) : Calls Try.prog 18 #[.pointer (some ⟨g, 0, none⟩), .agg #[.int .i64 f, .int .i64 m]] w fun e w' => e = .returned (.int .i64 (erS hd T f m true)) ∧ ∃ F', Both J F' w1 w' g rg tb hd (doS hd T f m true false) U := by
  refine (sfree H.sk f m hf hm).mono ?_
  rintro e w' ⟨he, F', hS, hT⟩
  exact ⟨he, F', H.stp hS hT⟩
theorem btake_r (H : Both J F w1 w g rg tb hd T U) (n : Int) (hn : I64 n) : Calls Try.prog 15 #[.pointer (some ⟨rg, 0, none⟩), .int .i64 n] w fun e w' => e = .returned (.tuple #[.int .i64 (tkS hd U n).1, .int .i64 (tkS hd U n).2.1]) ∧ Both J F w1 w' g rg tb hd T (tkS hd U n).2.2 := by
  refine (rtake_c rg tb hd U n hn w H.rs).mono ?_
  rintro e w' ⟨he, hR, hC⟩
  exact ⟨he, H.chg hC hR⟩
theorem bmark_r (H : Both J F w1 w g rg tb hd T U) (f m : Int) (hf : I64 f) (hm : I64 m) : Calls Try.prog 17 #[.pointer (some ⟨rg, 0, none⟩), .agg #[.int .i64 f, .int .i64 m]] w fun e w' => e = .returned (.int .i64 (erS hd U f m false)) ∧ Both J F w1 w' g rg tb hd T (doS hd U f m false true) := by
  refine (rmark_c rg tb hd U f m hf hm w H.rs).mono ?_
  rintro e w' ⟨he, hR, hC⟩
  exact ⟨he, H.chg hC hR⟩
theorem bfree_r (H : Both J F w1 w g rg tb hd T U) (f m : Int) (hf : I64 f) (hm : I64 m) : Calls Try.prog 19 #[.pointer (some ⟨rg, 0, none⟩), .agg #[.int .i64 f, .int .i64 m]] w fun e w' => e = .returned (.int .i64 (erS hd U f m true)) ∧ Both J F w1 w' g rg tb hd T (doS hd U f m true false) := by
  refine (rfree_c rg tb hd U f m hf hm w H.rs).mono ?_
  rintro e w' ⟨he, hR, hC⟩
  exact ⟨he, H.chg hC hR⟩
end
/-- Calls that came in. -/
structure OpIn (w : World) (b off k : Nat) (x : Int × Int × Int × Int) : Prop where
  c0 : w.cell? ⟨b, off + k * 4, none⟩ = some (.int .i64 x.1)
  c1 : w.cell? ⟨b, off + k * 4 + 1, none⟩ = some (.int .i64 x.2.1)
  c2 : w.cell? ⟨b, off + k * 4 + 2, none⟩ = some (.int .i64 x.2.2.1)
  c3 : w.cell? ⟨b, off + k * 4 + 3, none⟩ = some (.int .i64 x.2.2.2)
  bd : I64 x.1 ∧ I64 x.2.1 ∧ I64 x.2.2.1 ∧ I64 x.2.2.2
def OpsIn (w : World) (a : Option Addr) (n : Nat) : Prop := ∀ k, k < n → ∃ b off x, a = some ⟨b, off, none⟩ ∧ OpIn w b off k x
theorem OpIn.on {w w' : World} {b off k : Nat} {x : Int × Int × Int × Int} (h : OpIn w b off k x) (hb : Below w.heap.size w w') : OpIn w' b off k x := ⟨cell_on hb h.c0, cell_on hb h.c1, cell_on hb h.c2, cell_on hb h.c3, h.bd⟩
end Go.Proofs.Ytffhnecdmdmmkaa
