/-
  maps.Values at a cache's map: the items come, each once, in some order.
-/
import Derived.Test.YtpfhgkgkbefigaaCt
import Derived.RangeFuncSeq
import Derived.RangeFuncGives
import Derived.Sort.MapsRangeIn
import Derived.TacticsInMore
import Derived.LoopIn
import Derived.RegionIn
import Derived.OwnWalkIn
import Derived.RangeFuncCalls
import Derived.RangeFuncFrom
set_option maxRecDepth 20000
namespace Go.Proofs.Ytpfhgkgkbefigaa
open Go.RowKit Go.Maps

/-- The items that came out so far. -/
structure VC (D : Nat → It) (I : List Nat) (left : Lit → Bool) (xs : List Nat) : Prop where
  nod : xs.Nodup
  mem : ∀ b, b ∈ xs ↔ b ∈ I ∧ left (klA (D b).x (D b).z) = false
theorem VC.start {D : Nat → It} {I : List Nat} {Dm : DataW Unit} (h : MapIs D I Dm) : VC D I (Maps.has Dm) [] :=
  ⟨List.nodup_nil, fun b => ⟨fun hb => (by cases hb), fun hb => by
    have := (h.has _ _ (h.rng b hb.1).1 (h.rng b hb.1).2).2 ⟨b, hb.1, rfl, rfl⟩
    rw [this] at hb
    cases hb.2⟩⟩
theorem VC.step {D : Nat → It} {I : List Nat} {Dm : DataW Unit} {left : Lit → Bool} {xs : List Nat} (h : VC D I left xs) (hm : MapIs D I Dm) {b : Nat} (hb : b ∈ I) (hl : left (klA (D b).x (D b).z) = true) :
    VC D I (fun k => left k && !k.sameKey (klA (D b).x (D b).z)) (xs ++ [b]) := by
  have hn : b ∉ xs := fun hx => by
    have := ((h.mem b).1 hx).2
    rw [hl] at this
    cases this
  refine ⟨?_, fun a => ?_⟩
  · rw [List.nodup_append]
    refine ⟨h.nod, by simp, fun a ha d hd e => ?_⟩
    rw [List.mem_singleton] at hd
    subst hd e
    exact hn ha
  · rw [List.mem_append, List.mem_singleton]
    by_cases e : a = b
    · subst e
      simp [hb, WideAt.sameKey_self (keyLit (D a).x (D a).z)]
    · by_cases ha : a ∈ I
      · have hk : (klA (D a).x (D a).z).sameKey (klA (D b).x (D b).z) = false := sameKey_ne (fun e2 => by
          obtain ⟨e3, e4⟩ := klA_inj (hm.rng a ha).1 (hm.rng a ha).2 (hm.rng b hb).1 (hm.rng b hb).2 e2
          exact e (hm.one ha hb e3 e4))
        simp only [hk, Bool.not_false, Bool.and_true]
        rw [h.mem a]
        exact ⟨fun h1 => h1.resolve_right e, .inl⟩
      · constructor
        · rintro (h1 | h1)
          · exact absurd ((h.mem a).1 h1).1 ha
          · exact absurd h1 e
        · intro h1; exact absurd h1.1 ha
theorem VC.perm {D : Nat → It} {I : List Nat} {Dm : DataW Unit} {left : Lit → Bool} {xs : List Nat} (h : VC D I left xs) (hm : MapIs D I Dm) (hl : ∀ kl, left kl = false) : xs.Perm I := by
  rw [List.perm_ext_iff_of_nodup h.nod hm.nod]
  intro a
  rw [h.mem a]
  exact ⟨fun h1 => h1.1, fun h1 => ⟨h1, hl _⟩⟩
theorem VC.len {D : Nat → It} {I : List Nat} {left : Lit → Bool} {xs : List Nat} (h : VC D I left xs) : xs.length ≤ I.length :=
  List.Nodup.length_le_of_subset h.nod (fun b hb => ((h.mem b).1 hb).1)

section
attribute [local go_sem] Oper.semAt_some
set_option maxRecDepth 100000 in
set_option maxHeartbeats 2000000 in
theorem values1_in (n : Nat) (hn : 1 ≤ n) (l Bm mb : Nat) {D : Nat → It} {I : List Nat} {Dm : DataW Unit} (hmi : MapIs D I Dm) (J : List Nat → World → Prop) (W : World)
    (hY : ∀ pre b W1, J pre W1 → pre.length < I.length → b ∈ I → YieldAt Fence.wide (n - 1) Try.prog l #[pv b] W1 fun e W' => e = .returned (.bool true) ∧ J (pre ++ [b]) W' ∧ KeepsWalks W1 W')
    (hJ : AbidesFrom W.heap.size J) (hm : W.cell? ⟨Bm, 0, none⟩ = some (.map (some mb))) (hown : W.ownsMap Try.prog 31 ptrElem mb 1000 Dm) (h0 : J [] W) :
    CallsIn Fence.wide n Try.prog 44 #[.func (.yield l) #[] #[], .pointer (some ⟨Bm, 0, none⟩)] W fun e W' => (∃ v, e = .returned v) ∧ ∃ xs : List Nat, xs.Perm I ∧ J xs W' := by
  refine callsIn_of_wp Try.func44 rfl trivial ?_ rfl
  simp only [Try.ntmps44, List.size_toArray, List.length_cons, List.length_nil, Nat.reduceAdd, Nat.reduceSub, Array.replicate_succ, Array.replicate_zero, List.push_toArray, List.append_toArray, List.nil_append, List.cons_append]
  gi_wp2_with (first
    | (gi_at_range; refine wpListIn_range_own _ rfl _ 49 rfl 31 54 lawA Try.underlying49 _ mb 1000 _ rfl hown ?_; intro w0 hrg0 hg0 hs0)
    | gi_in)
  go_frame
  gi_loopw [4] (fun _ wr => ∃ (left : Lit → Bool) (cnt : Nat) (xs : List Nat), wr.ranges Try.prog 31 ptrElem mb W.heap.size 1000 Dm left cnt ∧ VC D I left xs ∧ J xs wr)
    (fun _ wr => wr.rangeLeft mb W.heap.size)
  case atStart =>
    exact ⟨_, _, [], hrg0, VC.start hmi, hJ [] W w0 none h0 hg0 (fun r e => by cases e)⟩
  case round =>
    obtain ⟨left, cnt, xs, hrg, hC, hJs⟩ := hrel
    gi_wp2_with (first
      | (gi_at_next; refine wpListIn_next_ranges _ rfl _ rfl 31 lawA ptrElem (fun p : Int × Int => valA p.1 p.2) pvo (fun key kl hk => by obtain ⟨x, z, hx, _⟩ := keyA_inv hk; exact ⟨(x, z), hx⟩) (fun v y hv => by obtain ⟨o, ho, _⟩ := ptrElem_inv hv; exact ⟨o, ho⟩) mb W.heap.size 1000 _ _ _ rfl hrg ?_ ?_)
      | gi_in)
    · intro hc0 hl0
      gi_wp2
      go_end0
      exact ⟨⟨_, rfl⟩, xs, hC.perm hmi hl0, hJs⟩
    · intro k1 k2 o kl yd yp w2 cnt2 hkey hlk hv hat hrg2 hlt hg2 hs2 hen
      obtain ⟨x, z, e1, hx, hz, rfl⟩ := keyA_inv hkey
      simp only [Value.agg.injEq, Array.mk.injEq, List.cons.injEq, Value.int.injEq, true_and, and_true] at e1
      obtain ⟨rfl, rfl⟩ := e1
      obtain ⟨b, hb, e2, e3⟩ := (hmi.has k1 k2 hx hz).1 (has_true_of_atKey hat)
      obtain rfl : o = some b := by
        have h1 := hat (pd none)
        rw [← e2, ← e3, hmi.look b hb] at h1
        rw [ptrElem_mk] at hv
        simp only [Option.some.injEq, Prod.mk.injEq] at hv
        exact pd_inj (hv.1.trans h1.symm)
      subst e2 e3
      have hC2 := hC.step hmi hb hlk
      have hln : xs.length < I.length := by
        have := hC2.len
        rw [List.length_append, List.length_singleton] at this
        omega
      have hJ2 : J xs w2 := hJ xs wr w2 (some W.heap.size) hJs hg2 (fun r e => by cases e; exact ⟨Nat.le_refl _, hrg.iter_walk⟩)
      obtain ⟨fn, tmps, assign, body, hy, hR⟩ := hY xs b w2 hJ2 hln hb
      replace hy : (Instr.yield l #[pvo (some b)]).run Try.prog w2 = .ok (.round l fn tmps assign body) w2 := hy
      clear hs2
      gi_wp2
      refine hR.mono ?_
      rintro e W3 ⟨rfl, hJ3, hk3⟩
      gi_wp2
      have hrg3 := hrg2.of_walks hk3
      go_roundw
      case rel => exact ⟨_, cnt2, xs ++ [b], hrg3, hC2, hJ3⟩
      case measure => rw [hrg3.left_eq, hrg.left_eq]; exact hlt
end
end Go.Proofs.Ytpfhgkgkbefigaa
