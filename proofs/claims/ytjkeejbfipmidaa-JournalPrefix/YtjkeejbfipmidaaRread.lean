/-
  The document's disk: Read.
-/
import Derived.Test.YtjkeejbfipmidaaRlen
import Derived.OwnWalk
import Derived.Deep.Cut
namespace Go.Proofs.Ytjkeejbfipmidaa
open Go.RowKit

theorem box_new (w : World) (f1 f2 f3 : Int) : Below w.heap.size w (w.alloc (.cells #[.int .i64 f1, .int .i64 f2, .int .i64 f3] 38)) ∧ (w.alloc (.cells #[.int .i64 f1, .int .i64 f2, .int .i64 f3] 38)).cell? ⟨w.heap.size, 0, none⟩ = some (.int .i64 f1) ∧ (w.alloc (.cells #[.int .i64 f1, .int .i64 f2, .int .i64 f3] 38)).cell? ⟨w.heap.size, 1, none⟩ = some (.int .i64 f2) ∧ (w.alloc (.cells #[.int .i64 f1, .int .i64 f2, .int .i64 f3] 38)).cell? ⟨w.heap.size, 2, none⟩ = some (.int .i64 f3) := by
  have h := heap_alloc_new w (.cells #[.int .i64 f1, .int .i64 f2, .int .i64 f3] 38)
  refine ⟨(Below.refl _ _).alloc (Nat.le_refl _) _, ?_, ?_, ?_⟩
  · rw [cell_of_row _ _ 0 _ 38 (0, 0) h]; rfl
  · rw [cell_of_row _ _ 1 _ 38 (0, 0) h]; rfl
  · rw [cell_of_row _ _ 2 _ 38 (0, 0) h]; rfl
theorem RD.inside {F : Nat → Prop} {w : World} {g : Nat} {S : St} {a : Option Addr} {c : Nat} {q : List (Nat × Nat)} (h : RD F w g S a c q) {w' : World} (hb : Below w.heap.size w w') : RD F w' g S a c q :=
  ⟨(hb.block g h.glt).trans h.head, h.len, ownsRow_same h.row (fun b e => hb.block b (by
      rcases h.row.2 with ⟨hv, h0⟩ | ⟨b', cap, cur, hv, _, hh, _⟩
      · rw [Value.slice.injEq] at hv; rw [hv.1] at e; cases e
      · rw [Value.slice.injEq] at hv; rw [hv.1] at e; cases e; exact (Array.getElem?_eq_some_iff.1 hh).1)),
    fun j hj hq => (h.bytes j hj hq).later hb, h.inF, h.ok, h.arm, h.bds⟩
/-- What Read answers. -/
def ReadSay (R : Int × List Int) (w : World) (e : Ending) (w' : World) : Prop :=
  Below w.heap.size w w' ∧ ∃ a c, e = .returned (.tuple #[.slice a R.2.length c, .int .i64 R.1]) ∧ Bytes w' a R.2.length R.2
theorem Bytes.none (w : World) : Bytes w none 0 [] := ⟨rfl, Or.inl rfl, fun z hz => absurd hz (by simp)⟩
theorem read_arg (S : St) (f : Fl) (i : Int) (h : ¬ (0 ≤ i ∧ i < 4096)) : S.read f i = (1, []) := by rw [St.read, if_neg h]
theorem read_down (S : St) (f : Fl) (i : Int) (h : 0 ≤ i ∧ i < 4096) (ho : S.out = true) : S.read f i = (8, []) := by rw [St.read, if_pos h, if_pos ho]
theorem read_ok (S : St) (f : Fl) (i : Int) (h : 0 ≤ i ∧ i < 4096) (ho : S.out = false) : S.read f i = (0, (has S.l f i).getD (List.replicate 32 0)) := by rw [St.read, if_pos h, ho]; rfl

set_option maxHeartbeats 1000000 in
theorem rread_c (F : Nat → Prop) (g : Nat) (S : St) (f1 f2 f3 i : Int) (w : World) (hD : RDisk F w g S) :
    Calls Try.prog 34 #[.pointer (some ⟨g, 0, none⟩), .agg #[.int .i64 f1, .int .i64 f2, .int .i64 f3], .int .i64 i] w (ReadSay (S.read (f1, f2, f3) i) w) := by
  obtain ⟨a, c, q, hD⟩ := hD
  obtain ⟨Post, hPost⟩ : ∃ Post, Post = ReadSay (S.read (f1, f2, f3) i) w := ⟨_, rfl⟩
  rw [← hPost]
  have HP : Hid (∀ r a c w', r = S.read (f1, f2, f3) i → Below w.heap.size w w' → Bytes w' a r.2.length r.2 → Post (.returned (.tuple #[.slice a r.2.length c, .int .i64 r.1])) w') := fun r a c w' h1 h2 h3 => by
    rw [hPost]; subst h1; exact ⟨h2, a, c, rfl, h3⟩
  clear hPost
  obtain ⟨hb0, x0, x1, x2⟩ := box_new w f1 f2 f3
  have HD0 := hD.inside hb0
  obtain ⟨c1, _⟩ := HD0.cell1
  have HD : Hid (RD F (w.alloc (.cells #[.int .i64 f1, .int .i64 f2, .int .i64 f3] 38)) g S a c q) := HD0
  have HB0 : Hid (Below w.heap.size w (w.alloc (.cells #[.int .i64 f1, .int .i64 f2, .int .i64 f3] 38))) := hb0
  have hs0 : w.heap.size < (w.alloc (.cells #[.int .i64 f1, .int .i64 f2, .int .i64 f3] 38)).heap.size := by rw [World.size_alloc]; omega
  clear hb0 HD0
  go_enter Try.func34, Try.ntmps34
  go_upto_region 1 with fail
  generalize w.alloc (.cells #[.int .i64 f1, .int .i64 f2, .int .i64 f3] 38) = w0 at *
  by_cases h0 : i < 0
  · have R := HP.out (1, []) none 0 w0 (by rw [read_arg _ _ _ (by omega)]) HB0.out (Bytes.none _)
    clear HP HD HB0 hD
    go_wp2
    exact R
  · by_cases h1 : 4096 ≤ i
    · have R := HP.out (1, []) none 0 w0 (by rw [read_arg _ _ _ (by omega)]) HB0.out (Bytes.none _)
      clear HP HD HB0 hD
      go_wp2
      exact R
    · by_cases ho : S.out = true
      · have R := HP.out (8, []) none 0 w0 (by rw [read_down _ _ _ (by omega) ho]) HB0.out (Bytes.none _)
        rw [ho] at c1
        clear HP HD HB0 hD
        go_wp2
        exact R
      · have ho' : S.out = false := by simpa using ho
        rw [ho'] at c1
        have HR : Hid (S.read (f1, f2, f3) i = (0, (has S.l (f1, f2, f3) i).getD (List.replicate 32 0))) := read_ok _ _ _ (by omega) ho'
        clear hD
        go_wp2_with fail
        refine (rplace_c F g S a c q f1 f2 f3 i w0 HD.out).mono ?_
        rintro e w1 ⟨hb1, ⟨hN, rfl⟩ | ⟨j, hj, hN, he, rfl⟩⟩
        · have HR2 : Hid (S.read (f1, f2, f3) i = (0, List.replicate 32 0)) := by
            show _ = _
            rw [HR.out, (put_new _ _ _ [] hN).2]; rfl
          have HB1 : Hid (Below w.heap.size w w1) := HB0.out.trans (hb1.mono (Nat.le_of_lt hs0))
          have hs1 : w.heap.size ≤ w1.heap.size := HB1.out.size
          clear HR HD hN hb1 x0 x1 x2 c1 HB0
          go_wp2_with (at_make; refine wpList_make_bytes w1 rfl _ _ rfl 32 32 rfl rfl rfl (by omega) ?_; intro w2 HW2 hb2)
          exact HP.out (0, List.replicate 32 0) _ 32 w2 HR2.out.symm (HB1.out.trans (hb2.mono hs1)) (HW2.out.bytes (fun z hz => by rw [List.eq_of_mem_replicate hz]; decide) _ rfl)
        · have HR2 : Hid (S.read (f1, f2, f3) i = (0, S.l[j].b)) := by
            show _ = _
            rw [HR.out, (put_at _ _ _ [] j hj hN he).2]; rfl
          have HB1 : Hid (Below w.heap.size w w1) := HB0.out.trans (hb1.mono (Nat.le_of_lt hs0))
          have hs1 : w.heap.size ≤ w1.heap.size := HB1.out.size
          have HD1 := HD.out.inside hb1
          obtain ⟨b, hq, rfl, k0, k1, k2, k3, k4, hbl⟩ := HD1.cells hj
          have hh := HD1.head0
          have HX : Hid (Bytes w1 (some ⟨q[j].1, 0, none⟩) 32 S.l[j].b) := HD1.bytes j hj hq
          have hl : S.l[j].b.length = 32 := HX.out.n
          have hj' : (j : Int) < S.l.length := by omega
          have hj0 : ¬ (j : Int) < 0 := by omega
          have hlen := HD1.bds.2.2.2.2
          clear HR HD hN hb1 x0 x1 x2 c1 HB0 HD1 k0 k1 k2 k3 he
          generalize q[j].1 = B at *
          generalize q[j].2 = C at *
          obtain ⟨bs, hbs⟩ : ∃ bs, bs = S.l[j].b := ⟨_, rfl⟩
          have HX' : Hid (Bytes w1 (some ⟨B, 0, none⟩) 32 bs) := by rw [hbs]; exact HX
          have HR3 : Hid (S.read (f1, f2, f3) i = (0, bs)) := by rw [hbs]; exact HR2
          rw [← hbs] at hl
          clear HR2 HX hbs
          generalize S.l.length = n at *
          go_wp2_with (at_builtin; refine wpList_append_bytes rfl (.const (.slice none 0 0)) (.tmp 33) rfl w1.heap.size none 0 0 [] rfl rfl (Own.nil _ _) (some ⟨B, 0, none⟩) 32 C bs rfl HX'.out (fun h => by cases h) (by omega) w1 (Below.refl _ _) (Nat.le_refl _) ?_; intro a2 c2 w2 HO2 hb2 hs2)
          have R := HP.out (0, bs) a2 c2 w2 HR3.out.symm (HB1.out.trans (hb2.mono hs1)) (HO2.out.bytes HX'.out.fit _ rfl)
          rw [hl] at R
          exact R
end Go.Proofs.Ytjkeejbfipmidaa
