/-
  The cache's small functions: find, pinned, use, letGo.
-/
import Derived.Test.YtpfhgkgkbefigaaKm
import Derived.Deep.Cut
set_option maxRecDepth 20000
namespace Go.Proofs.Ytpfhgkgkbefigaa
open Go.RowKit Go.Maps

section
variable {B : Nat} {w w' : World} {c : Nat} {h : Hd} {av : Option Addr} {cap : Nat} {D : Nat → It} {q I : List Nat} {Dm : DataW Unit}
theorem CC.bl (H : CC B w c h av cap D q I Dm) : B ≤ w.heap.size := Nat.le_trans H.qh.lo.1 (Nat.le_of_lt H.qh.hd.lt)
theorem CC.item (H : CC B w c h av cap D q I Dm) {b : Nat} (hb : b ∈ I) : ∃ p, Item w b (D b) p ∧ (p = -1 ↔ b ∉ q) ∧ (∀ i : Nat, p = (i : Int) → b ∈ q → i < q.length ∧ q.getD i 0 = b) ∧ -1 ≤ p ∧ p < 1000 := by
  by_cases hq : b ∈ q
  · obtain ⟨i, hi, e⟩ := mem_getD hq
    have := H.qh.it i hi
    rw [e] at this
    have hs := H.qh.sz
    refine ⟨_, this, ⟨fun h => by omega, fun h => absurd hq h⟩, fun j hj _ => ?_, by omega, by omega⟩
    obtain rfl : i = j := by omega
    exact ⟨hi, e⟩
  · exact ⟨-1, H.pin b hb hq, ⟨fun _ => hq, fun _ => rfl⟩, fun j hj hq' => absurd hq' hq, by omega, by omega⟩
/-- The same world but for what is no cache's. -/
theorem CC.below (H : CC B w c h av cap D q I Dm) (hb : Below w.heap.size w w') : CC B w' c h av cap D q I Dm :=
  ⟨H.qh.same (fun k hk => by
      rcases hk with rfl | h1 | h1
      · exact hb.block _ H.qh.hd.lt
      · subst h1
        obtain ⟨cur, hg, _⟩ := H.qh.row.blk
        exact hb.block _ (Array.getElem?_eq_some_iff.1 hg).1
      · obtain ⟨i, hi, e⟩ := mem_getD h1
        exact hb.block _ (e ▸ (H.qh.it i hi).lt)), H.hp, H.sub, fun b h1 h2 => (H.pin b h1 h2).same (hb.block _ (H.pin b h1 h2).lt), H.lo, ownsMap_same H.mp (hb.block _ H.mp.lt), H.mlo, H.mi⟩
theorem CC.keep {T : Obj → Bool} {B' : Nat} (H : CC B w c h av cap D q I Dm) (hk : KeepT T B' w w') (hT : ∀ o, isP o = true → T o = false) : CC B w' c h av cap D q I Dm := by
  have blk : ∀ (k : Nat) (o : Obj), w.heap[k]? = some o → isP o = true → w'.heap[k]? = w.heap[k]? := fun k o ho hp => (hk.typ k o ho (hT o hp)).trans ho.symm
  refine ⟨H.qh.same (fun k hq => ?_), H.hp, H.sub, fun b h1 h2 => (H.pin b h1 h2).same (blk _ _ (H.pin b h1 h2) rfl), H.lo, ?_, H.mlo, H.mi⟩
  · have : ∃ o, w.heap[k]? = some o := by
      rcases hq with rfl | h1 | h1
      · exact ⟨_, H.qh.hd⟩
      · subst h1
        obtain ⟨cur, hg, _⟩ := H.qh.row.blk
        exact ⟨_, hg⟩
      · obtain ⟨i, hi, e⟩ := mem_getD h1
        have := H.qh.it i hi
        rw [e] at this
        exact ⟨_, this⟩
    obtain ⟨o, ho⟩ := this
    exact blk k o ho (H.qh.isP k o hq ho).2
  · obtain ⟨es, clock, hb, r⟩ := H.mp
    exact ⟨es, clock, (blk _ _ hb rfl).trans hb, r⟩
end
theorem pinned_c {w : World} {b : Nat} {t : It} {p : Int} (hb : Item w b t p) : Calls Try.prog 31 #[pv b] w fun e w' => e = .returned (.bool (decide (p = -1))) ∧ w' = w := by
  have c4 := hb.c4
  unfold pv
  clear hb
  go_enter Try.func31, Try.ntmps31
  go_wp2
  go_ret
  exact ⟨rfl, rfl⟩
theorem find_c {B : Nat} {w : World} {c : Nat} {h : Hd} {av : Option Addr} {cap : Nat} {D : Nat → It} {q I : List Nat} {Dm : DataW Unit} (H : CC B w c h av cap D q I Dm) {x z : Int} (hx : I64 x) (hz : I64 z) :
    Calls Try.prog 30 #[.pointer (some ⟨c, 0, none⟩), valA x z] w fun e w' => e = .returned (pvo (lookI D I x z)) ∧ Below w.heap.size w w' := by
  have hb0 : Below w.heap.size w (w.alloc (.cells #[.int .i64 x, .int .i64 z] 31)) := (Below.refl _ _).alloc (Nat.le_refl _) _
  have H1 := H.below hb0
  have c2 := H1.qh.hd.c2
  have hN := heap_alloc_new w (.cells #[.int .i64 x, .int .i64 z] 31)
  have x0 : (w.alloc (.cells #[.int .i64 x, .int .i64 z] 31)).cell? ⟨w.heap.size, 0, none⟩ = some (.int .i64 x) := by rw [cell_of_row _ _ 0 _ 31 (0, 0) hN]; rfl
  have x1 : (w.alloc (.cells #[.int .i64 x, .int .i64 z] 31)).cell? ⟨w.heap.size, 1, none⟩ = some (.int .i64 z) := by rw [cell_of_row _ _ 1 _ 31 (0, 0) hN]; rfl
  have hl : ∀ n, (Instr.lookup 49 (.map (some h.mb)) (.agg #[.int .i64 x, .int .i64 z]) false).run Try.prog ((w.alloc (.cells #[.int .i64 x, .int .i64 z] 31)).drewN n) = .ok (pvo (lookI D I x z)) ((w.alloc (.cells #[.int .i64 x, .int .i64 z] 31)).drewN n) :=
    fun n => H1.mi.lookup (w := (w.alloc (.cells #[.int .i64 x, .int .i64 z] 31)).drewN n) (ownsMap_same H1.mp rfl) hx hz
  have HB : Hid (∀ n, Below w.heap.size w ((w.alloc (.cells #[.int .i64 x, .int .i64 z] 31)).drewN n)) := fun n => ⟨hb0.os, hb0.tape, hb0.output, hb0.size, hb0.block⟩
  generalize pvo (lookI D I x z) = L at *
  clear H H1 hb0 hN
  generalize h.mb = mb at *
  go_enter Try.func30, Try.ntmps30
  go_upto_region 1 with fail
  generalize w.alloc (.cells #[.int .i64 x, .int .i64 z] 31) = w0 at *
  go_wp2
  go_big_quiet (fail)
  go_wp2
  go_ret
  exact ⟨rfl, HB.out _⟩
end Go.Proofs.Ytpfhgkgkbefigaa
