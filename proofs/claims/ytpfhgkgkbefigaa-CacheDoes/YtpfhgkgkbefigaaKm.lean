/-
  The keys and the elements of a cache's map; what holds of a cache in memory.
-/
import Derived.Test.YtpfhgkgkbefigaaCr
import Derived.Maps.OwnSet
import Derived.DeepKeys4
set_option maxRecDepth 20000
namespace Go.Proofs.Ytpfhgkgkbefigaa
open Go.RowKit Go.Maps

theorem laidOut : laidOutB Try.prog = true := by kernel_rfl
def I64 (x : Int) : Prop := -9223372036854775808 ≤ x ∧ x ≤ 9223372036854775807
theorem bd64 {x : Int} (h : (Lit.int .i64 x).wf = true) : -9223372036854775808 ≤ x ∧ x ≤ 9223372036854775807 := by
  simp [Lit.wf, IntKind.min, IntKind.max, IntKind.bits, IntKind.signed] at h
  omega
theorem wf64 {x : Int} (h : I64 x) : (Lit.int .i64 x).wf = true := WalkArith.wf_i64 (by unfold I64 at h; omega)
theorem rowA : (31 : TypeId) < Try.prog.types.size := of_decide_eq_true (by kernel_rfl)
theorem wideA : (match Try.prog.underlying 31 with | some (.array _ _) | some (.struct _) => true | _ => false) = true := by kernel_rfl
theorem lawA : Keyed Try.prog 31 := Keyed.of_law (deep_law_laid laidOut (m := 2) (by omega) rowA (by kernel_rfl) wideA)
/-- A chunk as a value, as a key. -/
abbrev valA (x z : Int) : Value := .agg #[.int .i64 x, .int .i64 z]
def klA (x z : Int) : Lit := .string (keyBytes [.int .i64 x, .int .i64 z])
theorem kt31 : Try.prog.keyType 31 = true := by kernel_rfl
theorem cells31 : Try.prog.cellsOf 31 = 2 := by kernel_rfl
theorem cells3 : Try.prog.cellsOf 3 = 1 := by kernel_rfl
theorem litsA (n : Nat) (x z : Int) (h1 : I64 x) (h2 : I64 z) : Try.prog.keyLits (n + 2) 31 [.int .i64 x, .int .i64 z] = some [.int .i64 x, .int .i64 z] := by
  simp [Program.keyLits, Try.underlying31, Try.underlying3, cells31, cells3, wf64 h1, wf64 h2]
theorem many : 3 ≤ Try.prog.types.size := of_decide_eq_true (by kernel_rfl)
theorem keyA (x z : Int) (h1 : I64 x) (h2 : I64 z) : keyOf Try.prog 31 (valA x z) = some (klA x z) := by
  have hf : (valA x z).formed Try.prog 31 = true := by simp [Value.formed, Try.underlying31, cells31]
  obtain ⟨m, hm⟩ : ∃ m, Try.prog.types.size + 1 = m + 2 := ⟨Try.prog.types.size - 1, by have := many; omega⟩
  have hl : Try.prog.keyLits (Try.prog.types.size + 1) 31 (valA x z).cells.toList = some [.int .i64 x, .int .i64 z] := by rw [hm]; exact litsA m x z h1 h2
  unfold keyOf
  rw [Try.underlying31]
  simp only [kt31, hf, hl]
  rfl
theorem klA_inj {x z x' z' : Int} (h1 : I64 x) (h2 : I64 z) (h3 : I64 x') (h4 : I64 z') (e : klA x z = klA x' z') : x = x' ∧ z = z' := by
  have := lawA.inj (keyA x z h1 h2) (by rw [e]; exact keyA x' z' h3 h4)
  simp only [Value.agg.injEq, Array.mk.injEq, List.cons.injEq, Value.int.injEq, true_and, and_true] at this
  exact this
theorem keyLit (x z : Int) : WideAt.IsKeyLit (klA x z) := trivial
/-- Every key of such a map is a chunk. -/
theorem keyA_inv {key : Value} {kl : Lit} (h : keyOf Try.prog 31 key = some kl) : ∃ x z : Int, key = valA x z ∧ I64 x ∧ I64 z ∧ kl = klA x z := by
  have h0 := h
  unfold keyOf at h
  rw [Try.underlying31] at h
  simp only at h
  split at h
  · rename_i hc
    simp only [Bool.and_eq_true] at hc
    obtain ⟨ls, hls, _⟩ := Option.map_eq_some_iff.1 h
    have hform := hc.2
    cases key with
    | agg cs =>
      have hsz : cs.size = 2 := by simpa [Value.formed, Try.underlying31, cells31] using hform
      obtain ⟨m, hm⟩ : ∃ m, Try.prog.types.size + 1 = m + 2 := ⟨Try.prog.types.size - 1, by have := many; omega⟩
      rw [hm] at hls
      obtain ⟨l⟩ := cs
      have hsz' : l.length = 2 := by simpa using hsz
      match l, hsz' with
      | [v0, v1], _ =>
        have one : ∀ {k : Nat} {v : Value} {r : List Lit}, Try.prog.keyLits (k + 1) 3 [v] = some r → ∃ x, v = .int .i64 x ∧ I64 x := fun {k v r} hv => by
          unfold Program.keyLits at hv
          rw [Try.underlying3] at hv
          cases v <;> simp at hv
          rename_i q z
          obtain ⟨⟨rfl, hw⟩, _⟩ := hv
          exact ⟨z, rfl, bd64 hw⟩
        have hl : Try.prog.keyLits (m + 1 + 1) 31 [v0, v1] = some ls := hls
        unfold Program.keyLits at hl
        rw [Try.underlying31] at hl
        simp [cells31, cells3] at hl
        cases e0 : Try.prog.keyLits (m + 1) 3 [v0] with
        | none => simp [e0] at hl
        | some r0 =>
          cases e1 : Try.prog.keyLits (m + 1) 3 [v1] with
          | none => simp [e0, e1] at hl
          | some r1 =>
            obtain ⟨x, rfl, hx⟩ := one e0
            obtain ⟨z, rfl, hz⟩ := one e1
            refine ⟨x, z, rfl, hx, hz, ?_⟩
            have := keyA x z hx hz
            have h1 : keyOf Try.prog 31 (valA x z) = some kl := h0
            rw [this] at h1
            exact (Option.some.inj h1).symm
    | _ => simp [Value.formed, Try.underlying31] at hform
  · cases h

/-! ### elements: items, by their blocks -/
def pd : Option Nat → DataW Unit
  | none => .lit (.int .i64 (-1))
  | some b => .lit (.int .i64 (b : Int))
theorem pd_inj {a b : Option Nat} (h : pd a = pd b) : a = b := by
  cases a with
  | none =>
    cases b with
    | none => rfl
    | some b => simp [pd] at h
  | some a =>
    cases b with
    | none => simp [pd] at h
    | some b =>
      simp [pd] at h
      rw [show a = b by omega]
/-- A pointer to an item. -/
def pvo : Option Nat → Value
  | none => .pointer none
  | some b => pv b
def ptrElem (v : Value) : Option (DataW Unit × List MemPlace) :=
  match v with
  | .pointer none => some (pd none, [])
  | .pointer (some ⟨b, 0, none⟩) => some (pd (some b), [])
  | _ => none
theorem ptrElem_mk (o : Option Nat) : ptrElem (pvo o) = some (pd o, []) := by cases o <;> rfl
theorem ptrElem_inv {v : Value} {y : DataW Unit × List MemPlace} (h : ptrElem v = some y) : ∃ o, v = pvo o ∧ y = (pd o, []) := by
  unfold ptrElem at h
  split at h
  · cases h; exact ⟨none, rfl, rfl⟩
  · cases h; exact ⟨some _, rfl, rfl⟩
  · cases h
theorem zero54 (w : World) : (zeroValue 54).run Try.prog w = .ok (.pointer none) w := by kernel_rfl

/-! ### what is kept -/
/-- Item b is chunk (x, z)'s. -/
def isAt (D : Nat → It) (x z : Int) (b : Nat) : Bool := decide ((D b).x = x ∧ (D b).z = z)
def lookI (D : Nat → It) (I : List Nat) (x z : Int) : Option Nat := I.find? (isAt D x z)
/-- The map reads as the items of I. -/
structure MapIs (D : Nat → It) (I : List Nat) (Dm : DataW Unit) : Prop where
  rng : ∀ b ∈ I, I64 (D b).x ∧ I64 (D b).z
  look : ∀ b ∈ I, Dm.atKey (klA (D b).x (D b).z) (pd none) = pd (some b)
  has : ∀ x z, I64 x → I64 z → (Maps.has Dm (klA x z) = true ↔ ∃ b ∈ I, (D b).x = x ∧ (D b).z = z)
  size : Maps.size Dm = I.length
  nod : I.Nodup
theorem MapIs.one {D : Nat → It} {I : List Nat} {Dm : DataW Unit} (h : MapIs D I Dm) {a b : Nat} (ha : a ∈ I) (hb : b ∈ I) (hx : (D a).x = (D b).x) (hz : (D a).z = (D b).z) : a = b := by
  have h1 := h.look a ha
  rw [hx, hz, h.look b hb] at h1
  have := pd_inj h1
  simpa using this.symm
theorem MapIs.lookI {D : Nat → It} {I : List Nat} {Dm : DataW Unit} (h : MapIs D I Dm) {x z : Int} (hx : I64 x) (hz : I64 z) : Dm.atKey (klA x z) (pd none) = pd (lookI D I x z) := by
  unfold Ytpfhgkgkbefigaa.lookI
  cases hf : I.find? (isAt D x z) with
  | none =>
    have hno : Maps.has Dm (klA x z) = false := by
      rw [Bool.eq_false_iff]
      intro ht
      obtain ⟨b, hb, h1, h2⟩ := (h.has x z hx hz).1 ht
      have := List.find?_eq_none.1 hf b hb
      simp [isAt, h1, h2] at this
    exact Maps.atKey_of_not_has hno _
  | some b =>
    have hb := List.mem_of_find?_eq_some hf
    have h1 := List.find?_some hf
    simp only [isAt, decide_eq_true_eq] at h1
    have := h.look b hb
    rw [h1.1, h1.2] at this
    exact this
theorem lookI_some {D : Nat → It} {I : List Nat} {x z : Int} {b : Nat} (h : lookI D I x z = some b) : b ∈ I ∧ (D b).x = x ∧ (D b).z = z := by
  have h1 := List.find?_some h
  simp only [isAt, decide_eq_true_eq] at h1
  exact ⟨List.mem_of_find?_eq_some h, h1⟩
theorem lookI_none {D : Nat → It} {I : List Nat} {x z : Int} (h : lookI D I x z = none) : ∀ b ∈ I, ¬ ((D b).x = x ∧ (D b).z = z) := fun b hb e => by
  have := List.find?_eq_none.1 h b hb
  simp [isAt, e.1, e.2] at this
theorem MapIs.lookup {D : Nat → It} {I : List Nat} {Dm : DataW Unit} (h : MapIs D I Dm) {w : World} {mb n : Nat} (ho : w.ownsMap Try.prog 31 ptrElem mb n Dm) {x z : Int} (hx : I64 x) (hz : I64 z) :
    (Instr.lookup 49 (.map (some mb)) (valA x z) false).run Try.prog w = .ok (pvo (Ytpfhgkgkbefigaa.lookI D I x z)) w := by
  obtain ⟨v, ps, hrun, hv⟩ := ho.lookup lawA Try.underlying49 (zero54 w) (ptrElem_mk none) (keyA x z hx hz)
  rw [h.lookI hx hz] at hv
  obtain ⟨o, rfl, he⟩ := ptrElem_inv hv
  simp only [Prod.mk.injEq] at he
  rw [hrun, ← pd_inj he.1]
/-- One more. -/
theorem MapIs.put {D : Nat → It} {I : List Nat} {Dm : DataW Unit} (h : MapIs D I Dm) (ht : Maps.Tidy Dm) {b : Nat} (hb : b ∉ I) (hx : I64 (D b).x) (hz : I64 (D b).z) (hn : ∀ a ∈ I, ¬ ((D a).x = (D b).x ∧ (D a).z = (D b).z)) :
    MapIs D (I ++ [b]) (Dm.put (klA (D b).x (D b).z) (pd (some b))) := by
  have hno : Maps.has Dm (klA (D b).x (D b).z) = false := by
    rw [Bool.eq_false_iff]
    intro h1
    obtain ⟨a, ha, e⟩ := (h.has _ _ hx hz).1 h1
    exact hn a ha e
  refine ⟨fun a ha => ?_, fun a ha => ?_, fun x z h1 h2 => ?_, ?_, ?_⟩
  · rcases List.mem_append.1 ha with h3 | h3
    · exact h.rng a h3
    · rw [List.mem_singleton.1 h3]; exact ⟨hx, hz⟩
  · rcases List.mem_append.1 ha with h3 | h3
    · rw [Maps.atKey_put_other (fun e => ?_)]
      · exact h.look a h3
      · have := klA_inj (h.rng a h3).1 (h.rng a h3).2 hx hz e
        exact hn a h3 this
    · rw [List.mem_singleton.1 h3]
      exact Maps.atKey_put_same ht.isMap (keyLit _ _) _ _
  · by_cases e : x = (D b).x ∧ z = (D b).z
    · obtain ⟨rfl, rfl⟩ := e
      rw [Maps.has_put_same ht.isMap (keyLit _ _)]
      exact ⟨fun _ => ⟨b, by simp, rfl, rfl⟩, fun _ => rfl⟩
    · rw [Maps.has_put_other (fun e2 => e (klA_inj h1 h2 hx hz e2)), h.has x z h1 h2]
      constructor
      · rintro ⟨a, ha, e1⟩
        exact ⟨a, by simp [ha], e1⟩
      · rintro ⟨a, ha, e1⟩
        rcases List.mem_append.1 ha with h3 | h3
        · exact ⟨a, h3, e1⟩
        · rw [List.mem_singleton.1 h3] at e1
          exact absurd ⟨e1.1.symm, e1.2.symm⟩ e
  · rw [Maps.size_put ht, hno]
    simp [h.size]
  · rw [List.nodup_append]
    refine ⟨h.nod, by simp, fun a ha y hy e => ?_⟩
    rw [List.mem_singleton] at hy
    subst hy e
    exact hb ha
/-- One less. -/
theorem MapIs.del {D : Nat → It} {I : List Nat} {Dm : DataW Unit} (h : MapIs D I Dm) (ht : Maps.Tidy Dm) {b : Nat} (hb : b ∈ I) : MapIs D (I.erase b) (Dm.del (klA (D b).x (D b).z)) := by
  have hr := h.rng b hb
  have hmem : ∀ a, a ∈ I.erase b ↔ a ∈ I ∧ a ≠ b := fun a => by rw [h.nod.mem_erase_iff]; exact And.comm
  refine ⟨fun a ha => h.rng a ((hmem a).1 ha).1, fun a ha => ?_, fun x z h1 h2 => ?_, ?_, h.nod.erase b⟩
  · obtain ⟨h3, h4⟩ := (hmem a).1 ha
    rw [Maps.atKey_del_other (fun e => ?_)]
    · exact h.look a h3
    · obtain ⟨e1, e2⟩ := klA_inj (h.rng a h3).1 (h.rng a h3).2 hr.1 hr.2 e
      exact h4 (h.one h3 hb e1 e2)
  · by_cases e : x = (D b).x ∧ z = (D b).z
    · obtain ⟨rfl, rfl⟩ := e
      rw [Maps.has_del_same]
      constructor
      · intro h3; cases h3
      · rintro ⟨a, ha, e1, e2⟩
        obtain ⟨h3, h4⟩ := (hmem a).1 ha
        exact absurd (h.one h3 hb e1 e2) h4
    · rw [Maps.has_del_other (fun e2 => e (klA_inj h1 h2 hr.1 hr.2 e2)), h.has x z h1 h2]
      constructor
      · rintro ⟨a, ha, e1⟩
        exact ⟨a, (hmem a).2 ⟨ha, fun h5 => e (by rw [← e1.1, ← e1.2, h5]; exact ⟨rfl, rfl⟩)⟩, e1⟩
      · rintro ⟨a, ha, e1⟩
        exact ⟨a, ((hmem a).1 ha).1, e1⟩
  · have := Maps.size_del ht (k := klA (D b).x (D b).z)
    rw [(h.has _ _ hr.1 hr.2).2 ⟨b, hb, rfl, rfl⟩, if_pos rfl, h.size] at this
    rw [List.length_erase_of_mem hb]
    omega
/-- The order of I, and what items have, may be others. -/
theorem MapIs.perm {D D' : Nat → It} {I I' : List Nat} {Dm : DataW Unit} (h : MapIs D I Dm) (hp : I'.Perm I) (hD : ∀ b ∈ I, (D' b).x = (D b).x ∧ (D' b).z = (D b).z) : MapIs D' I' Dm := by
  refine ⟨fun b hb => ?_, fun b hb => ?_, fun x z h1 h2 => ?_, by rw [h.size, hp.length_eq], hp.nodup_iff.2 h.nod⟩
  · have hb' := hp.mem_iff.1 hb
    rw [(hD b hb').1, (hD b hb').2]
    exact h.rng b hb'
  · have hb' := hp.mem_iff.1 hb
    rw [(hD b hb').1, (hD b hb').2]
    exact h.look b hb'
  · rw [h.has x z h1 h2]
    constructor
    · rintro ⟨b, hb, e1, e2⟩
      exact ⟨b, hp.mem_iff.2 hb, by rw [(hD b hb).1, e1], by rw [(hD b hb).2, e2]⟩
    · rintro ⟨b, hb, e1, e2⟩
      have hb' := hp.mem_iff.1 hb
      exact ⟨b, hb', by rw [← (hD b hb').1, e1], by rw [← (hD b hb').2, e2]⟩

/-! ### a cache in memory -/
structure CC (B : Nat) (w : World) (c : Nat) (h : Hd) (av : Option Addr) (cap : Nat) (D : Nat → It) (q I : List Nat) (Dm : DataW Unit) : Prop where
  qh : QH B w c h av cap D q
  hp : Heap q.length (uq D q)
  sub : ∀ b ∈ q, b ∈ I
  pin : ∀ b ∈ I, b ∉ q → Item w b (D b) (-1)
  lo : ∀ b ∈ I, B ≤ b
  mp : w.ownsMap Try.prog 31 ptrElem h.mb 1000 Dm
  mlo : B ≤ h.mb
  mi : MapIs D I Dm
theorem ownsMap_same {w w' : World} {b n : Nat} {Dm : DataW Unit} (h : w.ownsMap Try.prog 31 ptrElem b n Dm) (e : w'.heap[b]? = w.heap[b]?) : w'.ownsMap Try.prog 31 ptrElem b n Dm := by
  obtain ⟨es, clock, hb, r⟩ := h
  exact ⟨es, clock, e.trans hb, r⟩
/-- What belongs to a cache. -/
def isP : Obj → Bool
  | .cells _ t _ => t == 53 || t == 54 || t == 56
  | .map _ _ => true
  | _ => false
/-- Nothing below B is another one, nor what is not a cache's. -/
structure KeepT (T : Obj → Bool) (B : Nat) (w w' : World) : Prop where
  os : w'.os = w.os
  tape : w'.tape = w.tape
  output : w'.output = w.output
  size : w.heap.size ≤ w'.heap.size
  low : ∀ k : Nat, k < B → k < w.heap.size → w'.heap[k]? = w.heap[k]?
  typ : ∀ (k : Nat) (o : Obj), w.heap[k]? = some o → T o = false → w'.heap[k]? = some o
theorem KeepT.refl (T : Obj → Bool) (B : Nat) (w : World) : KeepT T B w w := ⟨rfl, rfl, rfl, Nat.le_refl _, fun _ _ _ => rfl, fun _ _ h _ => h⟩
theorem KeepT.trans {T : Obj → Bool} {B : Nat} {a b c : World} (h : KeepT T B a b) (k : KeepT T B b c) : KeepT T B a c :=
  ⟨k.os.trans h.os, k.tape.trans h.tape, k.output.trans h.output, Nat.le_trans h.size k.size, fun j hj hs => (k.low j hj (Nat.lt_of_lt_of_le hs h.size)).trans (h.low j hj hs), fun j o ho ht => k.typ j o (h.typ j o ho ht) ht⟩
theorem KeepT.of_below {T : Obj → Bool} {B : Nat} {w w' : World} (h : Below w.heap.size w w') : KeepT T B w w' :=
  ⟨h.os, h.tape, h.output, h.size, fun k _ hk => h.block k hk, fun k _ ho _ => (h.block k (Array.getElem?_eq_some_iff.1 ho).1).trans ho⟩
theorem KeepT.below {T : Obj → Bool} {B : Nat} {w w' : World} (h : KeepT T B w w') (hB : B ≤ w.heap.size) : Below B w w' :=
  ⟨h.os, h.tape, h.output, h.size, fun k hk => h.low k hk (by omega)⟩
theorem KeepT.of_chg {T : Obj → Bool} {B : Nat} {F : Nat → Prop} {w w' : World} (h : Chg F w w') (hF : ∀ (k : Nat) (o : Obj), F k → w.heap[k]? = some o → B ≤ k ∧ T o = true) : KeepT T B w w' := by
  refine ⟨h.os, h.tape, h.output, h.size, fun k hk hs => h.block k hs (fun hf => ?_), fun k o ho ht => (h.block k (Array.getElem?_eq_some_iff.1 ho).1 (fun hf => ?_)).trans ho⟩
  · obtain ⟨o, ho⟩ : ∃ o, w.heap[k]? = some o := ⟨_, Array.getElem?_eq_getElem hs⟩
    have := (hF k o hf ho).1
    omega
  · have := (hF k o hf ho).2
    rw [ht] at this
    cases this
theorem QH.isP {B : Nat} {w : World} {c : Nat} {h : Hd} {av : Option Addr} {cap : Nat} {D : Nat → It} {q : List Nat} (H : QH B w c h av cap D q) : ∀ (k : Nat) (o : Obj), Qf c av q k → w.heap[k]? = some o → B ≤ k ∧ Ytpfhgkgkbefigaa.isP o = true := fun k o hk ho => by
  rcases hk with rfl | h1 | h1
  · have := H.hd
    unfold HdAt at this
    rw [ho] at this
    cases this
    exact ⟨H.lo.1, rfl⟩
  · subst h1
    obtain ⟨cur, hg, hB⟩ := H.row.blk
    rw [ho] at hg
    cases hg
    exact ⟨hB, rfl⟩
  · obtain ⟨i, hi, e⟩ := mem_getD h1
    have := H.it i hi
    rw [e] at this
    unfold Item at this
    rw [ho] at this
    cases this
    exact ⟨H.lo.2 k h1, rfl⟩
end Go.Proofs.Ytpfhgkgkbefigaa
