/-
  The program's disk: Files.
-/
import Derived.Test.YtjkeejbfipmidaaPsort
import Derived.Maps.RangeWalk
import Derived.LoopN
set_option maxRecDepth 20000
namespace Go.Proofs.Ytjkeejbfipmidaa
open Go.RowKit Go.Maps Go.Sort

/-- Every key of the map of lengths is a file. -/
theorem keyF_inv {key : Value} {kl : Lit} (h : keyOf Try.prog 38 key = some kl) : ∃ f : Fl, key = valF f ∧ I64F f ∧ kl = klF f := by
  have h0 := h
  unfold keyOf at h
  rw [Try.underlying38] at h
  simp only at h
  split at h
  · rename_i hc
    simp only [Bool.and_eq_true] at hc
    obtain ⟨ls, hls, _⟩ := Option.map_eq_some_iff.1 h
    have hform := hc.2
    cases key with
    | agg cs =>
      have hsz : cs.size = 3 := by simpa [Value.formed, Try.underlying38, cells38] using hform
      obtain ⟨m, hm⟩ : ∃ m, Try.prog.types.size + 1 = m + 2 := ⟨Try.prog.types.size - 1, by have := many; omega⟩
      rw [hm] at hls
      obtain ⟨l⟩ := cs
      have hsz' : l.length = 3 := by simpa using hsz
      match l, hsz' with
      | [v0, v1, v2], _ =>
        have one : ∀ {k : Nat} {v : Value} {r : List Lit}, Try.prog.keyLits (k + 1) 3 [v] = some r → ∃ x, v = .int .i64 x ∧ I64 x := fun {k v r} hv => by
          unfold Program.keyLits at hv
          rw [Try.underlying3] at hv
          cases v <;> simp at hv
          rename_i q z
          obtain ⟨⟨rfl, hw⟩, _⟩ := hv
          exact ⟨z, rfl, bd64 hw⟩
        have hl : Try.prog.keyLits (m + 1 + 1) 38 [v0, v1, v2] = some ls := hls
        unfold Program.keyLits at hl
        rw [Try.underlying38] at hl
        simp [cells38, cells3] at hl
        cases e0 : Try.prog.keyLits (m + 1) 3 [v0] with
        | none => simp [e0] at hl
        | some r0 =>
          cases e1 : Try.prog.keyLits (m + 1) 3 [v1] with
          | none => simp [e0, e1] at hl
          | some r1 =>
            cases e2 : Try.prog.keyLits (m + 1) 3 [v2] with
            | none => simp [e0, e1, e2] at hl
            | some r2 =>
              obtain ⟨x, rfl, hx⟩ := one e0
              obtain ⟨y, rfl, hy⟩ := one e1
              obtain ⟨z, rfl, hz⟩ := one e2
              refine ⟨(x, y, z), rfl, ⟨hx, hy, hz⟩, ?_⟩
              have := keyF (x, y, z) ⟨hx, hy, hz⟩
              have h1 : keyOf Try.prog 38 (valF (x, y, z)) = some kl := h0
              rw [this] at h1
              exact (Option.some.inj h1).symm
    | _ => simp [Value.formed, Try.underlying38] at hform
  · cases h
/-- The files that came out so far. -/
structure Coll (D : DataW Unit) (left : Lit → Bool) (fs : List Fl) : Prop where
  nod : fs.Nodup
  i64 : ∀ f ∈ fs, I64F f
  mem : ∀ f, I64F f → (f ∈ fs ↔ Maps.has D (klF f) = true ∧ left (klF f) = false)
theorem Coll.start (D : DataW Unit) : Coll D (Maps.has D) [] := ⟨List.nodup_nil, fun f h => (by cases h), fun f _ => ⟨fun h => (by cases h), fun h => (by obtain ⟨h1, h2⟩ := h; rw [h1] at h2; cases h2)⟩⟩
theorem Coll.step {D : DataW Unit} {left : Lit → Bool} {fs : List Fl} (h : Coll D left fs) {x : Fl} (hx : I64F x) (hl : left (klF x) = true) (hh : Maps.has D (klF x) = true) : Coll D (fun z => left z && !z.sameKey (klF x)) (fs ++ [x]) := by
  have hn : x ∉ fs := fun hm => by
    have := ((h.mem x hx).1 hm).2
    rw [hl] at this
    cases this
  refine ⟨?_, ?_, fun f hf => ?_⟩
  · rw [List.nodup_append]
    refine ⟨h.nod, by simp, fun a ha b hb e => ?_⟩
    rw [List.mem_singleton] at hb
    subst hb e
    exact hn ha
  · intro f hf
    rcases List.mem_append.1 hf with h1 | h1
    · exact h.i64 f h1
    · rw [List.mem_singleton.1 h1]; exact hx
  · rw [List.mem_append, List.mem_singleton]
    by_cases e : f = x
    · subst e
      simp [hh, WideAt.sameKey_self (keyLit f)]
    · have hk : (klF f).sameKey (klF x) = false := sameKey_ne (fun e2 => e (klF_inj hf hx e2))
      simp only [hk, Bool.not_false, Bool.and_true]
      rw [h.mem f hf]
      constructor
      · rintro (h1 | h1)
        · exact h1
        · exact absurd h1 e
      · exact Or.inl
theorem Coll.ends {D Db : DataW Unit} {left : Lit → Bool} {fs : List Fl} {l : List Bk} (h : Coll D left fs) (hl : ∀ kl, left kl = false) (h2 : Holds2 l Db D) (hf : ∀ b ∈ l, I64F b.f) : sorted fs = filesOf (at_ l) := by
  refine rise_eq _ _ (sorted_rise fs h.nod) (files_rise _) (fun g => ?_)
  rw [(sorted_perm' fs).mem_iff, mem_files]
  constructor
  · intro hm
    have hi := h.i64 g hm
    exact (h2.fil g hi).1 ((h.mem g hi).1 hm).1
  · rintro ⟨i, hm⟩
    obtain ⟨b, hb, e⟩ := List.mem_map.1 hm
    have hi : I64F g := by
      have := hf b hb
      cases e
      exact this
    exact (h.mem g hi).2 ⟨(h2.fil g hi).2 ⟨i, hm⟩, hl _⟩

/-- append of one file to what the call has gathered. -/
theorem wpList_append_one {w : World} {ops : Array Oper} {rest : List Oper} {o : Oper} {a : Act} {Q : Exit → Act → World → Prop} (hgd : o.guard = none) (s x : Operand)
    (ho : o.op = .call { callee := .builtin .append, args := #[s, x], argTypes := #[50, 50] }) (B : Nat) (av : Option Addr) (n cv : Nat) (ys : List Fl) (hs : a.eval s = .slice av n cv) (hown : FRow w B av n cv ys)
    (b sc : Nat) (f : Fl) (hx : a.eval x = .slice (some ⟨b, 0, none⟩) 1 sc) (hX : w.heap[b]? = some (.cells #[.int .i64 f.1, .int .i64 f.2.1, .int .i64 f.2.2] 38 (0, 0))) (hle : n + 1 ≤ 3000000) (hB : B ≤ w.heap.size)
    (h : ∀ a' c' w', FRow w' B a' (n + 1) c' (ys ++ [f]) → a' ≠ none → w.grownBy w' (Value.ownBlock (.slice av n cv)) → wpList Try.prog ops Q rest (a.put o.dst (.slice a' (n + 1) c')) w') : wpList Try.prog ops Q (o :: rest) a w := by
  obtain ⟨i, hi, hz0, hz1, hz2⟩ := info_parts info38
  refine wpList_append_own w hgd s x 50 ho B 38 i _ 3 24 Try.underlying50 hi hz0 hz1 hz2 rfl (by decide) _ _ _ hs hown ⟨b, 0, none⟩ 1 sc (fcells [f]) hx rfl ?_ (fcells_one _) (by unfold maxLen; omega) (by omega) hB ?_
  · intro j u hj
    rw [Addr.add_lit, Nat.zero_add, cell_of_row w b j _ 38 (0, 0) hX]
    simpa [fcells] using hj
  · intro v' w' h1 h2 _
    have e : ∃ a' c', v' = .slice a' (n + 1) c' ∧ a' ≠ none := by
      rcases h1.2 with ⟨hv, hn⟩ | ⟨g, cap, _, hv, _⟩
      · omega
      · exact ⟨_, _, hv, by simp⟩
    obtain ⟨a', c', rfl, ha'⟩ := e
    refine h a' c' w' ?_ ha' h2
    show FRow _ _ _ _ _ _
    unfold FRow
    rw [fcells_append]
    exact h1
theorem FRow.kept {w w' : World} {B : Nat} {a : Option Addr} {n c : Nat} {fs : List Fl} {row : Option Nat} (h : FRow w B a n c fs) (hg : w.grownBy w' row) (hne : ∀ g, a = some ⟨g, 0, none⟩ → some g ≠ row) : FRow w' B a n c fs :=
  ownsRow_same h (fun b e => by
    rcases h.form with ⟨e2, _⟩ | ⟨g, e2, _, hg', _⟩
    · rw [e2] at e; cases e
    · rw [e2] at e; cases e; exact hg.block _ hg' (hne _ e2))
theorem FRow.free {w : World} {B g : Nat} {n c : Nat} {fs : List Fl} (h : FRow w B (some ⟨g, 0, none⟩) n c fs) : ∀ k, w.frozen? ⟨g, k, none⟩ = false := fun k => by
  rcases h.2 with ⟨hv, _⟩ | ⟨g', cap, cur, hv, _, hh, _⟩
  · simp at hv
  · simp only [Value.slice.injEq, Option.some.injEq, Addr.mk.injEq, true_and, and_true] at hv
    rw [hv.1]
    exact frozen_of_row w g' k _ 38 hh

set_option maxHeartbeats 1000000 in
theorem pfiles_c (F : Nat → Prop) (g : Nat) (S : St) (w : World) (hD : PDisk F w g S) :
    Calls Try.prog 22 #[.pointer (some ⟨g, 0, none⟩)] w fun e w' => ∃ a n c, e = .returned (.slice a n c) ∧ Fls w' a n (filesOf (at_ S.l)) ∧ Below w.heap.size w w' := by
  obtain ⟨mb, ml, hD⟩ := hD
  obtain ⟨Post, hPost⟩ : ∃ Post : Ending → World → Prop, Post = fun e w' => ∃ a n c, e = .returned (.slice a n c) ∧ Fls w' a n (filesOf (at_ S.l)) ∧ Below w.heap.size w w' := ⟨_, rfl⟩
  rw [← hPost]
  have HP : Hid (∀ a n c w', Fls w' a n (filesOf (at_ S.l)) → Below w.heap.size w w' → Post (.returned (.slice a n c)) w') := fun a n c w' h1 h2 => by rw [hPost]; exact ⟨a, n, c, rfl, h1, h2⟩
  clear hPost
  obtain ⟨_, c1, _⟩ := hD.cells
  obtain ⟨i0, hi, hz0, hz1, hz2⟩ := info_parts info38
  have Hfil : Hid (∀ b ∈ S.l, I64F b.f) := hD.fil
  have hbw : 0 ≤ S.writes ∧ S.writes ≤ 1000000 := hD.bds.2.2
  rcases hD.maps with ⟨_, rfl, h3⟩ | ⟨b, l, Db, Dl, _, rfl, _, hown, h2, hFb, hFl, _⟩
  · have hln : ∀ ty W, (Builtin.len_ #[57] ty #[.map none]).run Try.prog W = .ok (.int .i64 0) W := fun ty W => len_nil Try.underlying57 ty
    have hrn : ∀ W, _ := fun W => run_range_nilMap (P := Try.prog) W 57 38 3 Try.underlying57
    have hfn : filesOf (at_ S.l) = [] := by rw [h3]; rfl
    rw [hfn] at HP
    clear hD h3 hfn Hfil
    go_enter Try.func22, Try.ntmps22
    go_wp2_with (at_make; refine wpList_make_own _ rfl _ _ 50 rfl w.heap.size 38 i0 _ 3 Try.underlying50 hi hz0 hz1 _ _ _ 0 rfl rfl rfl (by omega) (Nat.zero_le _) (Nat.le_refl _) ?_; intro w1 hrow1 hg1; have c1' : w1.cell? ⟨g, 1, none⟩ = some (.map none) := by rw [← c1]; exact World.cell?_of_block (a := ⟨g, 1, none⟩) (hg1.block g (World.block_lt_of_cell? w _ c1) (by simp)))
    have hnx : ∀ ty, (Instr.next (.pointer (some ⟨w1.heap.size, 0, none⟩)) false ty).run Try.prog (w1.alloc (.mapIter none 0 #[] 0)) = _ := fun ty => run_next_nilMap _ ty 0 0 #[]
    refine wp_loop_rounds 1 ?_
    rw [rounds_succ]
    have HB2 : Hid (Below w.heap.size w (w1.alloc (.mapIter none 0 #[] 0))) := ((Below.refl w.heap.size w).grown hg1 (Nat.le_refl _) (fun j hj => by cases hj)).alloc hg1.size _
    have hc := fun W => AnyF.slices_SortFunc_none (P := Try.prog) (ρ := sortF_ren) sortF (some ⟨w.heap.size, 0, none⟩) 0 (.func (.func 37) #[] #[]) W
    change ∀ W, Calls Try.prog 36 _ _ _ at hc
    clear hg1 hrow1
    generalize w1.alloc (.mapIter none 0 #[] 0) = w2 at *
    go_wp2_with (go_at_call 36; refine (hc _).mono ?_; rintro e w' ⟨rfl, rfl⟩)
    exact HP.out _ _ _ _ ⟨rfl, fun k hk => absurd hk (by simp)⟩ HB2.out
  · have hsz : Maps.size Dl ≤ 2000000 := by have := hown.size_le; omega
    have hll := hown.lt
    have HH2 : Hid (Holds2 S.l Db Dl) := h2
    clear h2 hD hFb hFl
    go_enter Try.func22, Try.ntmps22
    go_wp2_with (first
      | (at_len; refine wpList_len_own _ rfl _ 57 rfl 38 3 Try.underlying57 _ l _ _ rfl hown ?_)
      | (at_make; refine wpList_make_own _ rfl _ _ 50 rfl w.heap.size 38 i0 _ 3 Try.underlying50 hi hz0 hz1 _ _ _ (Maps.size Dl) rfl rfl rfl (by rw [hz2]; omega) (by unfold maxLen; omega) (Nat.le_refl _) ?_; intro w1 hrow1 hg1; have c1' : w1.cell? ⟨g, 1, none⟩ = some (.map (some l)) := by rw [← c1]; exact World.cell?_of_block (a := ⟨g, 1, none⟩) (hg1.block g (World.block_lt_of_cell? w _ c1) (by simp)))
      | (at_range; refine wpList_range_own _ rfl _ 57 rfl 38 3 lawF Try.underlying57 _ l _ _ rfl (hown.kept hg1 (by simp)) ?_; intro w0 hrg0 hg0 hs0))
    go_frame
    go_loopw [3] (fun v wr => ∃ (left : Lit → Bool) (cnt : Nat) (fs : List Fl) (av : Option Addr) (cv : Nat), v = .slice av fs.length cv ∧ Hid (wr.ranges Try.prog 38 (plainElem Try.prog 3) l w1.heap.size (2 * S.writes).toNat Dl left cnt ∧ fs.length + cnt ≤ Maps.size Dl ∧
        FRow wr w.heap.size av fs.length cv fs ∧ av ≠ none ∧ Coll Dl left fs ∧ Below w.heap.size w wr ∧ w1.heap.size < wr.heap.size))
      (fun _ wr => wr.rangeLeft l w1.heap.size)
    case atStart =>
      exact ⟨_, _, [], _, _, rfl, hrg0, by simp, (show FRow w1 _ _ _ _ [] from hrow1).kept hg0 (fun g h => by simp), by simp, Coll.start Dl, ((Below.refl w.heap.size w).grown hg1 (Nat.le_refl _) (fun j hj => by cases hj)).grown hg0 hg1.size (fun j hj => by cases hj), by omega⟩
    case round =>
      obtain ⟨left, cnt, fs, av, cv, rfl, HR⟩ := hrel
      have hrg := HR.out.1
      go_wp2_with (at_next; refine wpList_next_ranges _ rfl _ rfl 38 lawF (plainElem Try.prog 3) valF (Value.int .i64) (fun key kl hk => by obtain ⟨x, hx, _⟩ := keyF_inv hk; exact ⟨x, hx⟩) (fun v y hv => by obtain ⟨c, rfl, _⟩ := plainElem_int_inv Try.underlying3 hv; exact ⟨c, rfl⟩) l w1.heap.size _ _ _ _ rfl hrg ?_ ?_)
      · intro hc0 hl0
        obtain ⟨_, hcs, hrow, hav, hC, hnx, hsw⟩ := HR.out
        rcases hrow.form with ⟨e, _⟩ | ⟨gg, rfl, hbase, hgl, hcap⟩
        · exact absurd e hav
        have hs := hC.ends hl0 HH2.out Hfil.out
        have hc := sort_c wr gg fs.length cv fs hrow.fls hrow.free hgl (by omega)
        have HN : Hid (Below w.heap.size w wr) := hnx
        have HS : Hid (sorted fs = filesOf (at_ S.l)) := hs
        clear HR hrg hcs hrow hC hnx hs hav
        go_wp2_with (go_at_call 36; refine hc.mono ?_; rintro e w' ⟨rfl, hF, hg'⟩)
        exact HP.out _ _ _ _ (HS.out ▸ hF) (HN.out.grown hg' HN.out.size (fun j hj => by cases hj; exact hbase))
      · intro x1 x2 x3 c kl yd yp w2 cnt2 hkey hlk hv hat hrg2 hlt hg2 hs2 hen
        obtain ⟨f', e1, hi64, rfl⟩ := keyF_inv hkey
        obtain rfl : f' = (x1, x2, x3) := by
          simp only [Value.agg.injEq, Array.mk.injEq, List.cons.injEq, Value.int.injEq, true_and, and_true] at e1
          obtain ⟨a, b, c⟩ := f'
          simp only at e1
          rw [e1.1, e1.2.1, e1.2.2]
        have HHas : Hid (Maps.has Dl (klF (x1, x2, x3)) = true) := has_true_of_atKey hat
        have Hlk : Hid (left (klF (x1, x2, x3)) = true) := hlk
        have Hi : Hid (I64F (x1, x2, x3)) := hi64
        have Hne : Hid (∀ g, av = some ⟨g, 0, none⟩ → some g ≠ some w1.heap.size) := fun g e e2 => by
          have := row_ne_iter HR.out.2.2.1 hrg
          rw [e] at this
          exact this (by simp [Value.ownBlock]; simpa using e2.symm)
        have Hrow2 : Hid (FRow w2 w.heap.size av fs.length cv fs) := HR.out.2.2.1.kept hg2 Hne.out
        have HN2 : Hid (Below w.heap.size w w2) := HR.out.2.2.2.2.2.1.grown hg2 HR.out.2.2.2.2.2.1.size (fun j hj => by cases hj; exact hg1.size)
        have hsw2 : w1.heap.size < w2.heap.size := Nat.lt_of_lt_of_le HR.out.2.2.2.2.2.2 hg2.size
        have hw1s : w.heap.size ≤ w1.heap.size := hg1.size
        have hcs : fs.length + cnt ≤ 2000000 := by have := HR.out.2.1; omega
        have Hrg2 : Hid (w2.ranges Try.prog 38 (plainElem Try.prog 3) l w1.heap.size (2 * S.writes).toNat Dl (fun z => left z && !z.sameKey (klF (x1, x2, x3))) cnt2) := hrg2
        have Hrg : Hid (wr.ranges Try.prog 38 (plainElem Try.prog 3) l w1.heap.size (2 * S.writes).toNat Dl left cnt) := hrg
        have HrowB : Hid (FRow ((w2.alloc (.cells #[.int .i64 x1, .int .i64 x2, .int .i64 x3] 38)).alloc (.cells #[.int .i64 x1, .int .i64 x2, .int .i64 x3] 38)) w.heap.size av fs.length cv fs) := (Hrow2.out.later ((Below.refl _ _).alloc (Nat.le_refl _) _)).later ((Below.refl _ _).alloc (Nat.le_refl _) _)
        have HXB : Hid (((w2.alloc (.cells #[.int .i64 x1, .int .i64 x2, .int .i64 x3] 38)).alloc (.cells #[.int .i64 x1, .int .i64 x2, .int .i64 x3] 38)).heap[w2.heap.size + 1]? = some (.cells #[.int .i64 x1, .int .i64 x2, .int .i64 x3] 38 (0, 0))) := heap_alloc2_new w2 _ _
        have hsB : ((w2.alloc (.cells #[.int .i64 x1, .int .i64 x2, .int .i64 x3] 38)).alloc (.cells #[.int .i64 x1, .int .i64 x2, .int .i64 x3] 38)).heap.size = w2.heap.size + 2 := by rw [World.size_alloc, World.size_alloc]
        have HrgB : Hid (((w2.alloc (.cells #[.int .i64 x1, .int .i64 x2, .int .i64 x3] 38)).alloc (.cells #[.int .i64 x1, .int .i64 x2, .int .i64 x3] 38)).ranges Try.prog 38 (plainElem Try.prog 3) l w1.heap.size (2 * S.writes).toNat Dl (fun z => left z && !z.sameKey (klF (x1, x2, x3))) cnt2) := (hrg2.alloc _).alloc _
        have HNB : Hid (Below w.heap.size w ((w2.alloc (.cells #[.int .i64 x1, .int .i64 x2, .int .i64 x3] 38)).alloc (.cells #[.int .i64 x1, .int .i64 x2, .int .i64 x3] 38))) := ((HN2.out.alloc HN2.out.size _).alloc (by rw [World.size_alloc]; have := HN2.out.size; omega) _)
        have Hlt : Hid (cnt2 < cnt) := hlt
        have HsB : Hid (((w2.alloc (.cells #[.int .i64 x1, .int .i64 x2, .int .i64 x3] 38)).alloc (.cells #[.int .i64 x1, .int .i64 x2, .int .i64 x3] 38)).heap.size = w2.heap.size + 2) := hsB
        clear hs2 hsB hrg2 hg2 hkey hlk hv hat hi64 hrg e1 hlt
        go_wp2_with (at_builtin; refine wpList_append_one rfl (.tmp 22) (.tmp 24) rfl w.heap.size av fs.length cv fs rfl HrowB.out (w2.heap.size + 1) 1 (x1, x2, x3) rfl HXB.out (by omega) (by rw [HsB.out]; omega) ?_; intro a' c' w3 hrow3 ha3 hg3)
        have hrg3 := HrgB.out.kept hg3 (row_ne_low HrowB.out hll) (row_ne_iter HrowB.out HrgB.out)
        refine ⟨⟨_, cnt2, fs ++ [(x1, x2, x3)], a', c', by rw [List.length_append]; rfl, hrg3, ?_, ?_, ha3, HR.out.2.2.2.2.1.step Hi.out Hlk.out HHas.out, HNB.out.grown hg3 HNB.out.size (fun j hj => (World.ownsRow.lt HrowB.out j hj).1), ?_⟩, ?_⟩
        · rw [List.length_append, List.length_singleton]
          have := HR.out.2.1
          have := Hlt.out
          omega
        · rw [List.length_append, List.length_singleton]
          exact hrow3
        · have := hg3.size
          rw [HsB.out] at this
          omega
        · rw [hrg3.left_eq, Hrg.out.left_eq]
          exact Hlt.out
end Go.Proofs.Ytjkeejbfipmidaa
