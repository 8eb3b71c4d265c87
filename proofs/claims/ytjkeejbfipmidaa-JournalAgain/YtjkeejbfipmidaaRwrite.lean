/-
  The document's disk: Write.
-/
import Derived.Test.YtjkeejbfipmidaaRput
import Derived.Test.YtjkeejbfipmidaaHeld
namespace Go.Proofs.Ytjkeejbfipmidaa
open Go.RowKit

theorem info72 : (Try.prog.info? 72).map (fun i => (i.zero, i.size, i.bytes)) = some (some (.agg #[.int .i64 0, .int .i64 0, .int .i64 0, .int .i64 0, .slice none 0 0]), 5, 56) := by kernel_rfl
/-- What Write answers, and the disk behind it. -/
def WriteSay (F : Nat → Prop) (g : Nat) (r : Int × St) (w : World) (e : Ending) (w' : World) : Prop :=
  e = .returned (.int .i64 r.1) ∧ RDisk (fun k => F k ∨ (w.heap.size ≤ k ∧ k < w'.heap.size)) w' g r.2 ∧ Chg F w w'
theorem RD.more {F F' : Nat → Prop} {w : World} {g : Nat} {S : St} {a : Option Addr} {c : Nat} {q : List (Nat × Nat)} (h : RD F w g S a c q) (hF : ∀ k, F k → F' k) : RD F' w g S a c q :=
  ⟨h.head, h.len, h.row, h.bytes, ⟨hF _ h.inF.1, fun k hk => ⟨hF _ (h.inF.2.1 k hk).1, (h.inF.2.1 k hk).2⟩, fun p hp => ⟨hF _ (h.inF.2.2 p hp).1, (h.inF.2.2 p hp).2⟩⟩, h.ok, h.arm, h.bds⟩
theorem write_arg (S : St) (f : Fl) (i : Int) (bs : List Int) (h : ¬ argOk i bs.length) : S.write f i bs = (1, S) := by rw [St.write, if_neg h]
theorem write_down (S : St) (f : Fl) (i : Int) (bs : List Int) (h : argOk i bs.length) (ho : S.out = true) : S.write f i bs = (8, S) := by rw [St.write, if_pos h, if_pos ho]
theorem write_ok (S : St) (f : Fl) (i : Int) (bs : List Int) (h : argOk i bs.length) (ho : S.out = false) : S.write f i bs = (0, S.wrote f i bs) := by rw [St.write, if_pos h, ho]; rfl

/-- The head's row, and the file in its box. -/
def At7 (g : Nat) (v : Value) (H : Nat) (f1 f2 f3 : Int) (w' : World) : Prop := w'.cell? ⟨g, 0, none⟩ = some v ∧ w'.cell? ⟨H, 0, none⟩ = some (.int .i64 f1) ∧ w'.cell? ⟨H, 1, none⟩ = some (.int .i64 f2) ∧ w'.cell? ⟨H, 2, none⟩ = some (.int .i64 f3)
/-- A block's cells in a new block. -/
theorem alloc_new5 (w : World) (f1 f2 f3 i : Int) (p cp : Nat) : (w.alloc (.cells #[.int .i64 f1, .int .i64 f2, .int .i64 f3, .int .i64 i, .slice (some ⟨p, 0, none⟩) 32 cp] 72)).heap[w.heap.size]? = some (.cells (bkCells (f1, f2, f3) i (p, cp)).toArray 72 (0, 0)) ∧ ∀ b m v, w.cell? ⟨b, m, none⟩ = some v → (w.alloc (.cells #[.int .i64 f1, .int .i64 f2, .int .i64 f3, .int .i64 i, .slice (some ⟨p, 0, none⟩) 32 cp] 72)).cell? ⟨b, m, none⟩ = some v :=
  ⟨heap_alloc_new w _, fun b m v hv => by rw [← hv]; exact ((Below.refl w.heap.size w).alloc (Nat.le_refl _) _).cell (p := ⟨b, m, none⟩) (World.block_lt_of_cell? w _ hv)⟩
/-- Behind a write: the counts. -/
theorem tail_c {F : Nat → Prop} {H1 : Nat} {w w5 : World} {g : Nat} {S : St} {a : Option Addr} {c : Nat} {q : List (Nat × Nat)} (h : RD (fun k => F k ∨ (H1 ≤ k ∧ k < w5.heap.size)) w5 g S a c q) (hC : Chg F w w5) (hs : w.heap.size ≤ H1) (hw : S.writes < 1000000) (hF : F g) {o : Bool} {l : Int}
    (hl : -9223372036854775808 ≤ l ∧ l ≤ 9223372036854775807) (harm : S.armed = true → o = false → 1 ≤ l) {w6 : World} (hO : Only g w5 w6) (hh : w6.heap[g]? = some (.cells #[.slice a S.l.length c, .bool o, .bool S.armed, .int .i64 l, .int .i64 (S.writes + 1)] 62 (0, 0))) :
    RDisk (fun k => F k ∨ (w.heap.size ≤ k ∧ k < w6.heap.size)) w6 g ⟨S.l, o, S.armed, l, S.writes + 1⟩ ∧ Chg F w w6 :=
  ⟨⟨a, c, q, (h.reset hO hh harm ⟨hl.1, hl.2, by have := h.bds.2.2.1; omega, by omega⟩).more (fun k hk => hk.imp id (fun hk => ⟨by omega, by rw [hO.size]; exact hk.2⟩))⟩, hC.trans (hO.chg hF) (fun j hj => Or.inl hj)⟩
/-- append of bytes onto none, as a step of a region that draws its order. -/
theorem step_bytes {w : World} {ops : Array Oper} {o : Oper} {a : Act} {K : Act → World → Prop} {Q : Exit → Act → World → Prop} {E : Prop} (hgd : o.guard = none) (x : Operand)
    (ho : o.op = .call { callee := .builtin .append, args := #[.const (.slice none 0 0), x], argTypes := #[39, 39] }) (sp : Option Addr) (m sc : Nat) (xs : List Int) (hx : a.eval x = .slice sp m sc) (hX : Bytes w sp m xs) (hm : 0 < m) (hle : m ≤ 140737488355328)
    (h : ∀ cp w', Bytes w' (some ⟨w.heap.size, 0, none⟩) m xs → Below w.heap.size w w' → w.heap.size < w'.heap.size → K (a.put o.dst (.slice (some ⟨w.heap.size, 0, none⟩) m cp)) w') :
    if Region.wanted o (yielded ops a.tmps) = true then Oper.wp Try.prog o a w K Q else E := by
  have hn := hX.n
  obtain ⟨i, hi, hz0, hz1, hz2⟩ := info_parts Try.info5
  obtain ⟨b, off, rfl, hc⟩ : ∃ b off, sp = some ⟨b, off, none⟩ ∧ ∀ k (h : k < xs.length), w.cell? ⟨b, off + k, none⟩ = some (.int .u8 xs[k]) := by
    rcases hX.cells with e | h
    · subst e; simp at hn; omega
    · exact h
  refine step_append_lies w hgd (.const (.slice none 0 0)) x 39 ho w.heap.size 5 i (.int .u8 0) 1 1 Try.underlying39 hi hz0 hz1 hz2 rfl (by decide) (.slice none 0 0) 0 [] rfl (World.ownsRow_nil _ _ _ _) ⟨b, off, none⟩ m sc (xs.map (Value.int .u8)) hx (by simp [hn]) ?_ (ints_oneCell _ _) hm (by unfold maxLen; omega) (by omega) (Nat.le_refl _) _ rfl ?_
  · intro j u hj
    obtain ⟨hj', hv⟩ := List.getElem?_eq_some_iff.1 hj
    rw [List.length_map] at hj'
    rw [Addr.add_lit, hc j hj', ← hv]
    simp
  · intro p cp w' hown hgr hat hlt
    obtain rfl : p = w.heap.size := by
      rcases hat with h1 | h1
      · cases h1
      · exact h1
    have hown' : Own w' w.heap.size (some ⟨w.heap.size, 0, none⟩) cp xs := by
      unfold Own
      rw [hn]
      simpa using hown
    have := h cp w' (hown'.bytes hX.fit _ hn) ⟨hgr.os, hgr.tape, hgr.output, hgr.size, fun k hk => hgr.block k hk (by simp [Value.ownBlock])⟩ hlt
    simpa using this

set_option maxHeartbeats 1000000 in
theorem rwrite_c (F : Nat → Prop) (g : Nat) (S : St) (f1 f2 f3 i : Int) (sa : Option Addr) (n sc : Nat) (bs : List Int) (w : World) (hD : RDisk F w g S) (hX : Bytes w sa n bs) (hlw : S.l.length < 1000000 ∧ S.writes < 1000000) (hn : n < 140737488355328) :
    Calls Try.prog 33 #[.pointer (some ⟨g, 0, none⟩), .agg #[.int .i64 f1, .int .i64 f2, .int .i64 f3], .int .i64 i, .slice sa n sc] w (WriteSay F g (S.write (f1, f2, f3) i bs) w) := by
  obtain ⟨a, c, q, hD⟩ := hD
  obtain ⟨Post, hPost⟩ : ∃ Post, Post = WriteSay F g (S.write (f1, f2, f3) i bs) w := ⟨_, rfl⟩
  rw [← hPost]
  have hbn := hX.n
  have HP : Hid (Post = WriteSay F g (S.write (f1, f2, f3) i bs) w) := hPost
  clear hPost
  obtain ⟨hb0, x0, x1, x2⟩ := box_new w f1 f2 f3
  have HD0 := hD.inside hb0
  obtain ⟨c1, _⟩ := HD0.cell1
  have HX0 : Hid (Bytes (w.alloc (.cells #[.int .i64 f1, .int .i64 f2, .int .i64 f3] 38)) sa n bs) := hX.later hb0
  have HD : Hid (RD F (w.alloc (.cells #[.int .i64 f1, .int .i64 f2, .int .i64 f3] 38)) g S a c q) := HD0
  have HB0 : Hid (Below w.heap.size w (w.alloc (.cells #[.int .i64 f1, .int .i64 f2, .int .i64 f3] 38))) := hb0
  have hs0 : w.heap.size < (w.alloc (.cells #[.int .i64 f1, .int .i64 f2, .int .i64 f3] 38)).heap.size := by rw [World.size_alloc]; omega
  have HO : Hid (∀ k, Value.ownBlock (.slice a S.l.length c) = some k → k < w.heap.size ∧ k ≠ g) := fun k hk => by
    rcases hD.rowb with ⟨e, _⟩ | ⟨b, e, h1, h2, h3⟩
    · rw [e] at hk; cases hk
    · rw [e] at hk; cases hk; exact ⟨h1, h3⟩
  have Hg : Hid (F g) := hD.inF.1
  clear hb0 HD0 hX
  go_enter Try.func33, Try.ntmps33
  go_upto_region 1 with fail
  generalize w.alloc (.cells #[.int .i64 f1, .int .i64 f2, .int .i64 f3] 38) = w0 at *
  have HF : Hid (∀ E : Int, (E, S) = S.write (f1, f2, f3) i bs → Post (.returned (.int .i64 E)) w0) := fun E h => by
    rw [HP.out, ← h]
    exact ⟨rfl, ⟨a, c, q, HD.out.more (fun k hk => Or.inl hk)⟩, Chg.of_below HB0.out⟩
  by_cases h0 : i < 0
  · have R := HF.out 1 (by rw [write_arg _ _ _ _ (by unfold argOk; omega)])
    clear HP HD HB0 hD HX0 HF
    go_wp2
    exact R
  · by_cases h1 : 4096 ≤ i
    · have R := HF.out 1 (by rw [write_arg _ _ _ _ (by unfold argOk; omega)])
      clear HP HD HB0 hD HX0 HF
      go_wp2
      exact R
    · by_cases h2 : n = 32
      · subst h2
        by_cases ho : S.out = true
        · have R := HF.out 8 (by rw [write_down _ _ _ _ (by unfold argOk; omega) ho])
          rw [ho] at c1
          clear HP HD HB0 hD HX0 HF
          go_wp2
          exact R
        · have ho' : S.out = false := by simpa using ho
          rw [ho'] at c1
          have HW : Hid (S.write (f1, f2, f3) i bs = (0, S.wrote (f1, f2, f3) i bs)) := write_ok _ _ _ _ (by unfold argOk; omega) ho'
          have Hok : Hid (argOk i bs.length) := by show argOk _ _; unfold argOk; omega
          clear hD HF ho
          go_wp2_with fail
          refine (rplace_c F g S a c q f1 f2 f3 i w0 HD.out).mono ?_
          rintro e w1 ⟨hb1, HPl⟩
          have HD1 : Hid (RD F w1 g S a c q) := HD.out.inside hb1
          have HX1 : Hid (Bytes w1 sa 32 bs) := HX0.out.later hb1
          have HB1 : Hid (Below w.heap.size w w1) := HB0.out.trans (hb1.mono (Nat.le_of_lt hs0))
          have keep : ∀ b m v, w0.cell? ⟨b, m, none⟩ = some v → w1.cell? ⟨b, m, none⟩ = some v := fun b m v hv => by
            rw [← hv]; exact hb1.cell (p := ⟨b, m, none⟩) (World.block_lt_of_cell? w0 _ hv)
          have y0 := keep _ _ _ x0
          have y1 := keep _ _ _ x1
          have y2 := keep _ _ _ x2
          clear keep x0 x1 x2 c1 hb1 HB0 HX0 HD
          rcases HPl with ⟨hN, rfl⟩ | ⟨j, hj, hN, he, rfl⟩
          · have HM : Hid (put S.l (f1, f2, f3) i bs = S.l ++ [⟨(f1, f2, f3), i, bs⟩]) := (put_new _ _ _ _ hN).1
            clear hN
            obtain ⟨i72, hi72, hz630, hz631, hz632⟩ := info_parts info72
            go_wp2_with fail
            refine region_L (At7 g (.slice a S.l.length c) w.heap.size f1 f2 f3) 14 (by kernel_rfl) ?_
            have HD2 : Hid (RD F w1.drew g S a c q) := HD1.out.keep (fun _ _ => rfl)
            have HX2 : Hid (Bytes w1.drew sa 32 bs) := ⟨HX1.out.n, HX1.out.cells, HX1.out.fit⟩
            have HB2 : Hid (Below w.heap.size w w1.drew) := HB1.out.drew
            have z0 : w1.drew.cell? ⟨w.heap.size, 0, none⟩ = some (.int .i64 f1) := y0
            have z1 : w1.drew.cell? ⟨w.heap.size, 1, none⟩ = some (.int .i64 f2) := y1
            have z2 : w1.drew.cell? ⟨w.heap.size, 2, none⟩ = some (.int .i64 f3) := y2
            clear HD1 HX1 HB1 y0 y1 y2
            generalize w1.drew = v1 at *
            have hh := HD2.out.head0
            have hHeld : (At7 g (.slice a S.l.length c) w.heap.size f1 f2 f3) _ := ⟨hh, z0, z1, z2⟩
            have hne : Nonempty (Sub (At7 g (.slice a S.l.length c) w.heap.size f1 f2 f3)) := ⟨⟨_, hHeld⟩⟩
            have k0 : ∀ s : Sub (At7 g (.slice a S.l.length c) w.heap.size f1 f2 f3), s.w.cell? ⟨g, 0, none⟩ = some (.slice a S.l.length c) := fun s => s.ok.1
            have k1 : ∀ s : Sub (At7 g (.slice a S.l.length c) w.heap.size f1 f2 f3), s.w.cell? ⟨w.heap.size, 0, none⟩ = some (.int .i64 f1) := fun s => s.ok.2.1
            have k2 : ∀ s : Sub (At7 g (.slice a S.l.length c) w.heap.size f1 f2 f3), s.w.cell? ⟨w.heap.size, 1, none⟩ = some (.int .i64 f2) := fun s => s.ok.2.2.1
            have k3 : ∀ s : Sub (At7 g (.slice a S.l.length c) w.heap.size f1 f2 f3), s.w.cell? ⟨w.heap.size, 2, none⟩ = some (.int .i64 f3) := fun s => s.ok.2.2.2
            refine take_L (i := 0) rfl (by kernel_rfl) (by kernel_rfl) (by kernel_rfl) (by kernel_rfl) (fun _ _ _ _ h => h) (by exact hHeld) (fun K hK => ?_)
            go_simp
            refine hK _ ?_
            clear hK K
            refine take_L (i := 1) rfl (by kernel_rfl) (by kernel_rfl) (by kernel_rfl) (by kernel_rfl) (fun _ _ _ _ h => h) (by exact hHeld) (fun K hK => ?_)
            go_simp
            refine hK _ ?_
            clear hK K
            refine take_L (i := 2) rfl (by kernel_rfl) (by kernel_rfl) (by kernel_rfl) (by kernel_rfl) (fun _ _ _ _ h => h) (by exact hHeld) (fun K hK => ?_)
            go_simp
            refine hK _ ?_
            clear hK K
            refine take_L (i := 3) rfl (by kernel_rfl) (by kernel_rfl) (by kernel_rfl) (by kernel_rfl) (fun _ _ _ _ h => h) (by exact hHeld) (fun K hK => ?_)
            go_simp
            refine hK _ ?_
            clear hK K
            refine take_L (i := 4) rfl (by kernel_rfl) (by kernel_rfl) (by kernel_rfl) (by kernel_rfl) (fun _ _ _ _ h => h) (by exact hHeld) (fun K hK => ?_)
            go_simp
            refine hK _ ?_
            clear hK K
            refine take_L (i := 5) rfl (by kernel_rfl) (by kernel_rfl) (by kernel_rfl) (by kernel_rfl) (fun _ _ _ _ h => h) (by exact hHeld) (fun K hK => ?_)
            go_simp
            refine hK _ ?_
            clear hK K
            refine take_L (i := 6) rfl (by kernel_rfl) (by kernel_rfl) (by kernel_rfl) (by kernel_rfl) (fun _ _ _ _ h => h) (by exact hHeld) (fun K hK => ?_)
            go_simp
            refine hK _ ?_
            clear hK K
            refine take_L (i := 7) rfl (by kernel_rfl) (by kernel_rfl) (by kernel_rfl) (by kernel_rfl) (fun _ _ _ _ h => h) (by exact hHeld) (fun K hK => ?_)
            go_simp
            refine hK _ ?_
            clear hK K
            refine one_L (i := 8) (by kernel_rfl) rfl (fun K hK => ?_)
            refine step_bytes rfl (.tmp 38) rfl sa 32 sc bs rfl HX2.out (by omega) (by omega) ?_
            intro cp w2 hB2 hb2 hlt2
            have HC2 : Hid (Bytes w2 (some ⟨v1.heap.size, 0, none⟩) 32 bs) := hB2
            have Hb2 : Hid (Below v1.heap.size v1 w2) := hb2
            have hlt2' : v1.heap.size < w2.heap.size := hlt2
            have keep2 : ∀ b m v, v1.cell? ⟨b, m, none⟩ = some v → w2.cell? ⟨b, m, none⟩ = some v := fun b m v hv => by rw [← hv]; exact Hb2.out.cell (p := ⟨b, m, none⟩) (World.block_lt_of_cell? v1 _ hv)
            clear hB2 hb2 hlt2
            replace hHeld : (At7 g (.slice a S.l.length c) w.heap.size f1 f2 f3) _ := ⟨keep2 _ _ _ hHeld.1, keep2 _ _ _ hHeld.2.1, keep2 _ _ _ hHeld.2.2.1, keep2 _ _ _ hHeld.2.2.2⟩
            refine hK.out _ _ (fun _ => hHeld) ?_
            clear hK K
            refine take_L (i := 9) rfl (by kernel_rfl) (by kernel_rfl) (by kernel_rfl) (by kernel_rfl) (fun _ _ _ _ h => h) (by exact hHeld) (fun K hK => ?_)
            go_simp
            refine hK _ ?_
            clear hK K
            refine one_L (i := 10) (by kernel_rfl) rfl (fun K hK => ?_)
            go_simp
            have hw3 := alloc_new5 w2 f1 f2 f3 i v1.heap.size cp
            have hs3 : (w2.alloc (.cells #[.int .i64 f1, .int .i64 f2, .int .i64 f3, .int .i64 i, .slice (some ⟨v1.heap.size, 0, none⟩) 32 cp] 72)).heap.size = w2.heap.size + 1 := World.size_alloc ..
            obtain ⟨w3, e3⟩ : ∃ x, x = w2.alloc (.cells #[.int .i64 f1, .int .i64 f2, .int .i64 f3, .int .i64 i, .slice (some ⟨v1.heap.size, 0, none⟩) 32 cp] 72) := ⟨_, rfl⟩
            rw [← e3] at hw3 hs3 ⊢
            have E3 : Hid (w3 = w2.alloc (.cells #[.int .i64 f1, .int .i64 f2, .int .i64 f3, .int .i64 i, .slice (some ⟨v1.heap.size, 0, none⟩) 32 cp] 72)) := e3
            have HR3 : Hid (w3.ownsRow 0 72 5 (.slice a S.l.length c) S.l.length (rowOf S.l q)) := ownsRow_same HD2.out.row (fun b e => by rw [e3, heap_alloc_old w2 _ (by have := HO.out b (by rw [e]; rfl); have := HB2.out.size; omega)]; exact Hb2.out.block b (by have := HO.out b (by rw [e]; rfl); have := HB2.out.size; omega))
            have HN3 : Hid (∀ j u, (bkCells (f1, f2, f3) i (v1.heap.size, cp))[j]? = some u → w3.cell? ((⟨w2.heap.size, 0, none⟩ : Addr).add j) = some u) := World.news_of_block hw3.1
            clear e3
            replace hHeld : (At7 g (.slice a S.l.length c) w.heap.size f1 f2 f3) _ := ⟨hw3.2 _ _ _ hHeld.1, hw3.2 _ _ _ hHeld.2.1, hw3.2 _ _ _ hHeld.2.2.1, hw3.2 _ _ _ hHeld.2.2.2⟩
            refine hK.out _ _ (fun _ => hHeld) ?_
            clear hK K
            refine one_L (i := 11) (by kernel_rfl) rfl (fun K hK => ?_)
            refine step_append_lies _ rfl (.tmp 35) (.tmp 41) 60 rfl 0 72 i72 _ 5 56 Try.underlying60 hi72 hz630 hz631 hz632 rfl (by decide) (.slice a S.l.length c) S.l.length (rowOf S.l q) rfl HR3.out ⟨w2.heap.size, 0, none⟩ 1 1 (bkCells (f1, f2, f3) i (v1.heap.size, cp)) rfl rfl HN3.out (by simp [bkCells, Value.oneCell']) (by omega) (by unfold maxLen; omega) (by omega) (Nat.zero_le _) (w2.heap.size + 1) hs3 ?_
            intro b' cap w4 hown4 hgr4 hat4 hlt4
            have h40 : ∀ b m v, (b = g ∨ b = w.heap.size) → w3.cell? ⟨b, m, none⟩ = some v → w4.cell? ⟨b, m, none⟩ = some v := fun b m v hb hv => by rw [← hv]; exact World.cell?_of_block (a := ⟨b, m, none⟩) (hgr4.block b (World.block_lt_of_cell? w3 _ hv) (fun e => by have := HO.out b e.symm; omega))
            have hh3 : w3.heap[g]? = w2.heap[g]? := by rw [E3.out]; exact heap_alloc_old w2 _ (Nat.lt_of_lt_of_le HD2.out.glt Hb2.out.size)
            have hh4 : w4.heap[g]? = _ := (hgr4.block g (World.block_lt_of_cell? w3 _ hHeld.1) (fun e => by have := HO.out g e.symm; omega)).trans (hh3.trans ((Hb2.out.block g HD2.out.glt).trans HD2.out.head))
            have f4 : w4.frozen? ⟨g, 0, none⟩ = false := frozen_of_row w4 g 0 _ 62 hh4
            rw [E3.out] at hgr4
            have HG4 : Hid _ := HD2.out.grown (f := (f1, f2, f3)) (i := i) Hb2.out (Nat.le_refl _) HC2.out hown4 hgr4 hat4 hlt4 Hok.out hlw.1
            clear hown4 hgr4 hat4 hh4
            replace hHeld : (At7 g (.slice a S.l.length c) w.heap.size f1 f2 f3) _ := ⟨h40 _ _ _ (Or.inl rfl) hHeld.1, h40 _ _ _ (Or.inr rfl) hHeld.2.1, h40 _ _ _ (Or.inr rfl) hHeld.2.2.1, h40 _ _ _ (Or.inr rfl) hHeld.2.2.2⟩
            refine hK.out _ _ (fun _ => hHeld) ?_
            clear hK K
            refine one_L (i := 12) (by kernel_rfl) rfl (fun K hK => ?_)
            go_simp
            refine hK.out _ _ (fun _ => hHeld) ?_
            clear hK K
            refine take_L (i := 13) rfl (by kernel_rfl) (by kernel_rfl) (by kernel_rfl) (by kernel_rfl) (fun _ _ _ _ h => h) (by exact hHeld) (fun K hK => ?_)
            go_simp
            refine hK _ ?_
            clear hK K
            refine one_L (i := 14) (by kernel_rfl) rfl (fun K hK => ?_)
            have c40 : w4.cell? ⟨g, 0, none⟩ = some (.slice a S.l.length c) := hHeld.1
            go_simp
            refine hK.out _ _ (fun h => absurd rfl h) ?_
            clear hK K
            refine done_L (by kernel_rfl) ?_ _
            have HG : Hid (∃ a5 c5 q5, RD (fun k => F k ∨ (v1.heap.size ≤ k ∧ k < (w4.setCell ⟨g, 0, none⟩ (.slice (some ⟨b', 0, none⟩) (S.l.length + 1) cap)).heap.size)) (w4.setCell ⟨g, 0, none⟩ (.slice (some ⟨b', 0, none⟩) (S.l.length + 1) cap)) g { S with l := put S.l (f1, f2, f3) i bs } a5 c5 q5) := by
              show ∃ a5 c5 q5, _
              rw [HM.out]
              exact ⟨_, _, _, HG4.out.1⟩
            have HC5 : Hid (Chg F w (w4.setCell ⟨g, 0, none⟩ (.slice (some ⟨b', 0, none⟩) (S.l.length + 1) cap))) := (Chg.of_below HB2.out).trans HG4.out.2 (fun j hj => Or.inl hj)
            have hs1 : w.heap.size ≤ v1.heap.size := HB2.out.size
            clear HG4 HD2 HC2 Hb2 E3 HR3 HN3 HX2 HB2 HM hHeld hne k0 k1 k2 k3 keep2 hw3 h40 hh3 f4 c40 hh z0 z1 z2 HO
            generalize w4.setCell ⟨g, 0, none⟩ (.slice (some ⟨b', 0, none⟩) (S.l.length + 1) cap) = w5 at *
            obtain ⟨a5, c5, q5, H5⟩ := HG.out
            have h5 := H5.head
            have HFg := Hg.out
            have HH5 : Hid (RD _ w5 g { S with l := put S.l (f1, f2, f3) i bs } a5 c5 q5) := H5
            have hl0 : S.armed = true → 1 ≤ S.left := fun h => H5.arm h ho'
            have hl1 := H5.bds.1
            have hl2 := H5.bds.2.1
            have hw0 := H5.bds.2.2.1
            have hw1 := hlw.2
            simp only [] at h5 hl1 hl2 hw0
            clear H5
            have f4 : w5.frozen? ⟨g, 4, none⟩ = false := frozen_of_row w5 g 4 _ 62 h5
            have c4 : w5.cell? ⟨g, 4, none⟩ = some (.int .i64 S.writes) := by rw [cell_of_row w5 g 4 _ 62 (0, 0) h5]; rfl
            have h6 := heap_setCell_same w5 g 4 _ 62 (.int .i64 (S.writes + 1)) h5
            have c2 : (w5.setCell ⟨g, 4, none⟩ (.int .i64 (S.writes + 1))).cell? ⟨g, 2, none⟩ = some (.bool S.armed) := by rw [cell_of_row _ g 2 _ 62 (0, 0) h6]; rfl
            have HR : Hid (∀ (o : Bool) (l : Int) w6, (⟨put S.l (f1, f2, f3) i bs, o, S.armed, l, S.writes + 1⟩ : St) = S.wrote (f1, f2, f3) i bs → (-9223372036854775808 ≤ l ∧ l ≤ 9223372036854775807) → (S.armed = true → o = false → 1 ≤ l) → Only g w5 w6 → w6.heap[g]? = some (.cells #[.slice a5 (put S.l (f1, f2, f3) i bs).length c5, .bool o, .bool S.armed, .int .i64 l, .int .i64 (S.writes + 1)] 62 (0, 0)) → Post (.returned (.int .i64 0)) w6) := fun o l w6 e hl harm hO hh => by
              rw [HP.out, HW.out, ← e]
              have H6 := tail_c HH5.out HC5.out hs1 hlw.2 HFg hl harm hO hh
              exact ⟨rfl, H6.1, H6.2⟩
            have Hh6 : Hid ((w5.setCell ⟨g, 4, none⟩ (.int .i64 (S.writes + 1))).heap[g]? = _) := h6
            clear HH5 HG HC5 HP HW Hok Hg
            by_cases ha : S.armed = true
            · have hl3 := hl0 ha
              rw [ha] at c2
              have f3 : (w5.setCell ⟨g, 4, none⟩ (.int .i64 (S.writes + 1))).frozen? ⟨g, 3, none⟩ = false := frozen_of_row _ g 3 _ 62 h6
              have c3 : (w5.setCell ⟨g, 4, none⟩ (.int .i64 (S.writes + 1))).cell? ⟨g, 3, none⟩ = some (.int .i64 S.left) := by rw [cell_of_row _ g 3 _ 62 (0, 0) h6]; rfl
              have h7 := heap_setCell_same _ g 3 _ 62 (.int .i64 (S.left - 1)) h6
              have f1' : ((w5.setCell ⟨g, 4, none⟩ (.int .i64 (S.writes + 1))).setCell ⟨g, 3, none⟩ (.int .i64 (S.left - 1))).frozen? ⟨g, 1, none⟩ = false := frozen_of_row _ g 1 _ 62 h7
              have c3' : ((w5.setCell ⟨g, 4, none⟩ (.int .i64 (S.writes + 1))).setCell ⟨g, 3, none⟩ (.int .i64 (S.left - 1))).cell? ⟨g, 3, none⟩ = some (.int .i64 (S.left - 1)) := by rw [cell_of_row _ g 3 _ 62 (0, 0) h7]; rfl
              have c1' : ((w5.setCell ⟨g, 4, none⟩ (.int .i64 (S.writes + 1))).setCell ⟨g, 3, none⟩ (.int .i64 (S.left - 1))).cell? ⟨g, 1, none⟩ = some (.bool S.out) := by rw [cell_of_row _ g 1 _ 62 (0, 0) h7]; rfl
              have R := HR.out (decide (S.left - 1 ≤ 0)) (S.left - 1) (((w5.setCell ⟨g, 4, none⟩ (.int .i64 (S.writes + 1))).setCell ⟨g, 3, none⟩ (.int .i64 (S.left - 1))).setCell ⟨g, 1, none⟩ (.bool (decide (S.left - 1 ≤ 0)))) (by unfold St.wrote; rw [ha]; rfl) ⟨by omega, by omega⟩ (fun _ h => by have := of_decide_eq_false h; omega) ((((Only.refl g w5).set 4 _).set 3 _).set 1 _) (by rw [heap_setCell_same _ g 1 _ 62 _ h7]; rfl)
              clear HR h5 h6 h7 Hh6
              go_wp2
              exact R
            · have ha' : S.armed = false := by simpa using ha
              rw [ha'] at c2
              have R := HR.out S.out S.left (w5.setCell ⟨g, 4, none⟩ (.int .i64 (S.writes + 1))) (by unfold St.wrote; rw [ha', ho']; rfl) ⟨hl1, hl2⟩ (fun h => absurd h ha) ((Only.refl g w5).set 4 _) (by rw [h6]; rfl)
              clear HR h5 h6 Hh6 hl0
              go_wp2
              exact R
          · have HM : Hid (put S.l (f1, f2, f3) i bs = S.l.set j ⟨S.l[j].f, S.l[j].i, bs⟩) := by show _ = _; rw [(put_at _ _ _ _ j hj hN he).1, he.1, he.2]
            have hj' : (j : Int) < S.l.length := by omega
            have hj0 : ¬ (j : Int) < 0 := by omega
            obtain ⟨b, hq, rfl, _, _, _, _, k4, hbl⟩ := HD1.out.cells hj
            clear hN he
            go_wp2_with fail
            refine region_L (At7 g (.slice (some ⟨b, 0, none⟩) S.l.length c) w.heap.size f1 f2 f3) 9 (by kernel_rfl) ?_
            have HD2 : Hid (RD F w1.drew g S (some ⟨b, 0, none⟩) c q) := HD1.out.keep (fun _ _ => rfl)
            have HX2 : Hid (Bytes w1.drew sa 32 bs) := ⟨HX1.out.n, HX1.out.cells, HX1.out.fit⟩
            have HB2 : Hid (Below w.heap.size w w1.drew) := HB1.out.drew
            have z0 : w1.drew.cell? ⟨w.heap.size, 0, none⟩ = some (.int .i64 f1) := y0
            have z1 : w1.drew.cell? ⟨w.heap.size, 1, none⟩ = some (.int .i64 f2) := y1
            have z2 : w1.drew.cell? ⟨w.heap.size, 2, none⟩ = some (.int .i64 f3) := y2
            have k4' : w1.drew.cell? ⟨b, j * 5 + 4, none⟩ = some (.slice (some ⟨q[j].1, 0, none⟩) 32 q[j].2) := k4
            clear HD1 HX1 HB1 y0 y1 y2 k4 hbl
            generalize w1.drew = v1 at *
            have hh := HD2.out.head0
            have hHeld : (At7 g (.slice (some ⟨b, 0, none⟩) S.l.length c) w.heap.size f1 f2 f3) _ := ⟨hh, z0, z1, z2⟩
            have hne : Nonempty (Sub (At7 g (.slice (some ⟨b, 0, none⟩) S.l.length c) w.heap.size f1 f2 f3)) := ⟨⟨_, hHeld⟩⟩
            have k0 : ∀ s : Sub (At7 g (.slice (some ⟨b, 0, none⟩) S.l.length c) w.heap.size f1 f2 f3), s.w.cell? ⟨g, 0, none⟩ = some (.slice (some ⟨b, 0, none⟩) S.l.length c) := fun s => s.ok.1
            have k1 : ∀ s : Sub (At7 g (.slice (some ⟨b, 0, none⟩) S.l.length c) w.heap.size f1 f2 f3), s.w.cell? ⟨w.heap.size, 0, none⟩ = some (.int .i64 f1) := fun s => s.ok.2.1
            have k2 : ∀ s : Sub (At7 g (.slice (some ⟨b, 0, none⟩) S.l.length c) w.heap.size f1 f2 f3), s.w.cell? ⟨w.heap.size, 1, none⟩ = some (.int .i64 f2) := fun s => s.ok.2.2.1
            have k3 : ∀ s : Sub (At7 g (.slice (some ⟨b, 0, none⟩) S.l.length c) w.heap.size f1 f2 f3), s.w.cell? ⟨w.heap.size, 2, none⟩ = some (.int .i64 f3) := fun s => s.ok.2.2.2
            refine take_L (i := 0) rfl (by kernel_rfl) (by kernel_rfl) (by kernel_rfl) (by kernel_rfl) (fun _ _ _ _ h => h) (by exact hHeld) (fun K hK => ?_)
            go_simp
            refine hK _ ?_
            clear hK K
            refine take_L (i := 1) rfl (by kernel_rfl) (by kernel_rfl) (by kernel_rfl) (by kernel_rfl) (fun _ _ _ _ h => h) (by exact hHeld) (fun K hK => ?_)
            go_simp
            refine hK _ ?_
            clear hK K
            refine take_L (i := 2) rfl (by kernel_rfl) (by kernel_rfl) (by kernel_rfl) (by kernel_rfl) (fun _ _ _ _ h => h) (by exact hHeld) (fun K hK => ?_)
            go_simp
            refine hK _ ?_
            clear hK K
            refine take_L (i := 3) rfl (by kernel_rfl) (by kernel_rfl) (by kernel_rfl) (by kernel_rfl) (fun _ _ _ _ h => h) (by exact hHeld) (fun K hK => ?_)
            go_simp
            refine hK _ ?_
            clear hK K
            refine take_L (i := 4) rfl (by kernel_rfl) (by kernel_rfl) (by kernel_rfl) (by kernel_rfl) (fun _ _ _ _ h => h) (by exact hHeld) (fun K hK => ?_)
            go_simp
            refine hK _ ?_
            clear hK K
            refine take_L (i := 5) rfl (by kernel_rfl) (by kernel_rfl) (by kernel_rfl) (by kernel_rfl) (fun _ _ _ _ h => h) (by exact hHeld) (fun K hK => ?_)
            go_simp
            refine hK _ ?_
            clear hK K
            refine one_L (i := 6) (by kernel_rfl) rfl (fun K hK => ?_)
            refine step_bytes rfl (.tmp 50) rfl sa 32 sc bs rfl HX2.out (by omega) (by omega) ?_
            intro cp w2 hB2 hb2 hlt2
            have HC2 : Hid (Bytes w2 (some ⟨v1.heap.size, 0, none⟩) 32 bs) := hB2
            have Hb2 : Hid (Below v1.heap.size v1 w2) := hb2
            have hlt2' : v1.heap.size < w2.heap.size := hlt2
            have keep2 : ∀ b m v, v1.cell? ⟨b, m, none⟩ = some v → w2.cell? ⟨b, m, none⟩ = some v := fun b m v hv => by rw [← hv]; exact Hb2.out.cell (p := ⟨b, m, none⟩) (World.block_lt_of_cell? v1 _ hv)
            clear hB2 hb2 hlt2
            replace hHeld : (At7 g (.slice (some ⟨b, 0, none⟩) S.l.length c) w.heap.size f1 f2 f3) _ := ⟨keep2 _ _ _ hHeld.1, keep2 _ _ _ hHeld.2.1, keep2 _ _ _ hHeld.2.2.1, keep2 _ _ _ hHeld.2.2.2⟩
            refine hK.out _ _ (fun _ => hHeld) ?_
            clear hK K
            refine one_L (i := 7) (by kernel_rfl) rfl (fun K hK => ?_)
            go_simp
            refine hK.out _ _ (fun _ => hHeld) ?_
            clear hK K
            refine take_L (i := 8) rfl (by kernel_rfl) (by kernel_rfl) (by kernel_rfl) (by kernel_rfl) (fun _ _ _ _ h => h) (by exact hHeld) (fun K hK => ?_)
            go_simp
            refine hK _ ?_
            clear hK K
            refine one_L (i := 9) (by kernel_rfl) rfl (fun K hK => ?_)
            have k5 := keep2 _ _ _ k4'
            have hbr : w2.frozen? ⟨b, j * 5 + 4, none⟩ = false := by
              rcases HD2.out.row.2 with ⟨hv, _⟩ | ⟨b0, cap0, cur0, hv, _, hh0, _⟩
              · simp at hv
              · simp only [Value.slice.injEq, Option.some.injEq, Addr.mk.injEq, and_true, true_and] at hv
                obtain ⟨rfl, _⟩ := hv
                exact frozen_of_row w2 b _ _ 72 ((Hb2.out.block b (Array.getElem?_eq_some_iff.1 hh0).1).trans hh0)
            go_simp
            refine hK.out _ _ (fun h => absurd rfl h) ?_
            clear hK K
            refine done_L (by kernel_rfl) ?_ _
            have HA := HD2.out.again (cp := cp) hj Hb2.out (Nat.le_refl _) HC2.out
            have HG : Hid (∃ a5 c5 q5, RD (fun k => F k ∨ (v1.heap.size ≤ k ∧ k < (w2.setCell ⟨b, j * 5 + 4, none⟩ (.slice (some ⟨v1.heap.size, 0, none⟩) 32 cp)).heap.size)) (w2.setCell ⟨b, j * 5 + 4, none⟩ (.slice (some ⟨v1.heap.size, 0, none⟩) 32 cp)) g { S with l := put S.l (f1, f2, f3) i bs } a5 c5 q5) := by
              show ∃ a5 c5 q5, _
              rw [HM.out]
              exact ⟨_, _, _, HA.1⟩
            have HC5 : Hid (Chg F w (w2.setCell ⟨b, j * 5 + 4, none⟩ (.slice (some ⟨v1.heap.size, 0, none⟩) 32 cp))) := (Chg.of_below HB2.out).trans HA.2 (fun j hj => Or.inl hj)
            have hs1 : w.heap.size ≤ v1.heap.size := HB2.out.size
            clear HA HD2 HC2 Hb2 HX2 HB2 HM hHeld hne k0 k1 k2 k3 keep2 k4' k5 hbr hh z0 z1 z2 HO
            generalize w2.setCell ⟨b, j * 5 + 4, none⟩ (.slice (some ⟨v1.heap.size, 0, none⟩) 32 cp) = w5 at *
            obtain ⟨a5, c5, q5, H5⟩ := HG.out
            have h5 := H5.head
            have HFg := Hg.out
            have HH5 : Hid (RD _ w5 g { S with l := put S.l (f1, f2, f3) i bs } a5 c5 q5) := H5
            have hl0 : S.armed = true → 1 ≤ S.left := fun h => H5.arm h ho'
            have hl1 := H5.bds.1
            have hl2 := H5.bds.2.1
            have hw0 := H5.bds.2.2.1
            have hw1 := hlw.2
            simp only [] at h5 hl1 hl2 hw0
            clear H5
            have f4 : w5.frozen? ⟨g, 4, none⟩ = false := frozen_of_row w5 g 4 _ 62 h5
            have c4 : w5.cell? ⟨g, 4, none⟩ = some (.int .i64 S.writes) := by rw [cell_of_row w5 g 4 _ 62 (0, 0) h5]; rfl
            have h6 := heap_setCell_same w5 g 4 _ 62 (.int .i64 (S.writes + 1)) h5
            have c2 : (w5.setCell ⟨g, 4, none⟩ (.int .i64 (S.writes + 1))).cell? ⟨g, 2, none⟩ = some (.bool S.armed) := by rw [cell_of_row _ g 2 _ 62 (0, 0) h6]; rfl
            have HR : Hid (∀ (o : Bool) (l : Int) w6, (⟨put S.l (f1, f2, f3) i bs, o, S.armed, l, S.writes + 1⟩ : St) = S.wrote (f1, f2, f3) i bs → (-9223372036854775808 ≤ l ∧ l ≤ 9223372036854775807) → (S.armed = true → o = false → 1 ≤ l) → Only g w5 w6 → w6.heap[g]? = some (.cells #[.slice a5 (put S.l (f1, f2, f3) i bs).length c5, .bool o, .bool S.armed, .int .i64 l, .int .i64 (S.writes + 1)] 62 (0, 0)) → Post (.returned (.int .i64 0)) w6) := fun o l w6 e hl harm hO hh => by
              rw [HP.out, HW.out, ← e]
              have H6 := tail_c HH5.out HC5.out hs1 hlw.2 HFg hl harm hO hh
              exact ⟨rfl, H6.1, H6.2⟩
            have Hh6 : Hid ((w5.setCell ⟨g, 4, none⟩ (.int .i64 (S.writes + 1))).heap[g]? = _) := h6
            clear HH5 HG HC5 HP HW Hok Hg
            by_cases ha : S.armed = true
            · have hl3 := hl0 ha
              rw [ha] at c2
              have f3 : (w5.setCell ⟨g, 4, none⟩ (.int .i64 (S.writes + 1))).frozen? ⟨g, 3, none⟩ = false := frozen_of_row _ g 3 _ 62 h6
              have c3 : (w5.setCell ⟨g, 4, none⟩ (.int .i64 (S.writes + 1))).cell? ⟨g, 3, none⟩ = some (.int .i64 S.left) := by rw [cell_of_row _ g 3 _ 62 (0, 0) h6]; rfl
              have h7 := heap_setCell_same _ g 3 _ 62 (.int .i64 (S.left - 1)) h6
              have f1' : ((w5.setCell ⟨g, 4, none⟩ (.int .i64 (S.writes + 1))).setCell ⟨g, 3, none⟩ (.int .i64 (S.left - 1))).frozen? ⟨g, 1, none⟩ = false := frozen_of_row _ g 1 _ 62 h7
              have c3' : ((w5.setCell ⟨g, 4, none⟩ (.int .i64 (S.writes + 1))).setCell ⟨g, 3, none⟩ (.int .i64 (S.left - 1))).cell? ⟨g, 3, none⟩ = some (.int .i64 (S.left - 1)) := by rw [cell_of_row _ g 3 _ 62 (0, 0) h7]; rfl
              have c1' : ((w5.setCell ⟨g, 4, none⟩ (.int .i64 (S.writes + 1))).setCell ⟨g, 3, none⟩ (.int .i64 (S.left - 1))).cell? ⟨g, 1, none⟩ = some (.bool S.out) := by rw [cell_of_row _ g 1 _ 62 (0, 0) h7]; rfl
              have R := HR.out (decide (S.left - 1 ≤ 0)) (S.left - 1) (((w5.setCell ⟨g, 4, none⟩ (.int .i64 (S.writes + 1))).setCell ⟨g, 3, none⟩ (.int .i64 (S.left - 1))).setCell ⟨g, 1, none⟩ (.bool (decide (S.left - 1 ≤ 0)))) (by unfold St.wrote; rw [ha]; rfl) ⟨by omega, by omega⟩ (fun _ h => by have := of_decide_eq_false h; omega) ((((Only.refl g w5).set 4 _).set 3 _).set 1 _) (by rw [heap_setCell_same _ g 1 _ 62 _ h7]; rfl)
              clear HR h5 h6 h7 Hh6
              go_wp2
              exact R
            · have ha' : S.armed = false := by simpa using ha
              rw [ha'] at c2
              have R := HR.out S.out S.left (w5.setCell ⟨g, 4, none⟩ (.int .i64 (S.writes + 1))) (by unfold St.wrote; rw [ha', ho']; rfl) ⟨hl1, hl2⟩ (fun h => absurd h ha) ((Only.refl g w5).set 4 _) (by rw [h6]; rfl)
              clear HR h5 h6 Hh6 hl0
              go_wp2
              exact R
      · have h2' : ¬ (n : Int) = 32 := by omega
        have R := HF.out 1 (by rw [write_arg _ _ _ _ (by unfold argOk; omega)])
        clear HP HD HB0 hD HX0 HF
        go_wp2
        exact R
end Go.Proofs.Ytjkeejbfipmidaa
