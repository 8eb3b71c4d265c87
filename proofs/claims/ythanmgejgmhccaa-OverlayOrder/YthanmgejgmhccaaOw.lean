/-
  How an overlay lies in memory; its chunk's Get of no chunk too; the closure, laid.
-/
import Derived.Test.YthanmgejgmhccaaOm
import Derived.Shelf.Abstract
set_option maxRecDepth 20000
namespace Go.Proofs.Ythanmgejgmhccaa
open C Go.RowKit Go.Shelf

theorem blk_ne {w : World} {a b : Nat} {t t' : TypeId} {x y : Array Value} (h : w.heap[a]? = some (.cells x t (0, 0))) (h' : w.heap[b]? = some (.cells y t' (0, 0))) (ht : t ≠ t') : a ≠ b := fun e => by
  subst e
  rw [h] at h'
  simp at h'
  exact ht h'.2
theorem cell_lt {w : World} {a : Addr} {v : Value} (h : w.cell? a = some v) : a.block < w.heap.size := World.block_lt_of_cell? w _ h
/-- Just two blocks are others. -/
structure Only2 (o e : Nat) (w w' : World) : Prop where
  os : w'.os = w.os
  tape : w'.tape = w.tape
  output : w'.output = w.output
  size : w'.heap.size = w.heap.size
  block : ∀ k, k ≠ o → k ≠ e → w'.heap[k]? = w.heap[k]?
theorem Only2.refl (o e : Nat) (w : World) : Only2 o e w w := ⟨rfl, rfl, rfl, rfl, fun _ _ _ => rfl⟩
theorem Only2.set {o e : Nat} {a w : World} (h : Only2 o e a w) (k : Nat) (v : Value) : Only2 o e a (w.setCell ⟨o, k, none⟩ v) :=
  ⟨h.os, h.tape, h.output, (by simp [World.setCell, h.size]), fun j h1 h2 => (Below.heap_setCell w ⟨o, k, none⟩ v j h1).trans (h.block j h1 h2)⟩
theorem Only2.of {o e : Nat} {a w w' : World} (h : Only2 o e a w) (h' : Only e w w') : Only2 o e a w' :=
  ⟨h'.os.trans h.os, h'.tape.trans h.tape, h'.output.trans h.output, h'.size.trans h.size, fun j h1 h2 => (h'.block j h2).trans (h.block j h1 h2)⟩
theorem Only2.below {o e B : Nat} {w w' : World} (h : Only2 o e w w') (h1 : B ≤ o) (h2 : B ≤ e) : Below B w w' :=
  ⟨h.os, h.tape, h.output, Nat.le_of_eq h.size.symm, fun j hj => h.block j (by omega) (by omega)⟩
/-- Edits that are handed in: none, or a chunk. -/
structure Ed (w : World) (p : Option Addr) (es : Option (List Int)) : Prop where
  h : (p = none ∧ es = none) ∨ ∃ e l, p = some ⟨e, 0, none⟩ ∧ es = some l ∧ Blk w e 67 l ∧ l.length = 32768 ∧ Kinds l
theorem Ed.below {w w' : World} {p : Option Addr} {es : Option (List Int)} (h : Ed w p es) (hb : Below w.heap.size w w') : Ed w' p es := by
  rcases h.h with q | ⟨e, l, h1, h2, h3, h4⟩
  · exact ⟨.inl q⟩
  · exact ⟨.inr ⟨e, l, h1, h2, h3.on hb, h4⟩⟩
/-- An overlay at o, whose edits lie at e and whose blocks lie at g; o and e lie at B or above. -/
structure Ov (B : Nat) (w : World) (o e g : Nat) (E G : List Int) (d : Bool) : Prop where
  hd : w.heap[o]? = some (.cells #[.pointer (some ⟨e, 0, none⟩), .pointer (some ⟨g, 0, none⟩), .bool d] 53 (0, 0))
  eb : Blk w e 67 E
  gb : Blk w g 67 G
  sp : Sp E G
  ne : e ≠ g
  bo : B ≤ o
  be : B ≤ e
  bg : B ≤ g
section
variable {B : Nat} {w w' : World} {o e g : Nat} {E G : List Int} {d : Bool}
theorem Ov.lt (h : Ov B w o e g E G d) : o < w.heap.size := (Array.getElem?_eq_some_iff.1 h.hd).1
theorem Ov.on (h : Ov B w o e g E G d) (hb : Below w.heap.size w w') : Ov B w' o e g E G d :=
  ⟨(hb.block o h.lt).trans h.hd, h.eb.on hb, h.gb.on hb, h.sp, h.ne, h.bo, h.be, h.bg⟩
theorem Ov.only (h : Ov B w o e g E G d) {o' e' : Nat} (ho : Only2 o' e' w w') (h1 : o ≠ o') (h2 : o ≠ e') (h3 : e ≠ o') (h4 : e ≠ e') (h5 : g ≠ o') (h6 : g ≠ e') : Ov B w' o e g E G d :=
  ⟨(ho.block o h1 h2).trans h.hd, (ho.block e h3 h4).trans h.eb, (ho.block g h5 h6).trans h.gb, h.sp, h.ne, h.bo, h.be, h.bg⟩
theorem Ov.base (h : Ov B w o e g E G d) {B' : Nat} (hB : B' ≤ B) : Ov B' w o e g E G d :=
  ⟨h.hd, h.eb, h.gb, h.sp, h.ne, Nat.le_trans hB h.bo, Nat.le_trans hB h.be, Nat.le_trans hB h.bg⟩
theorem Ov.c0 (h : Ov B w o e g E G d) : w.cell? ⟨o, 0, none⟩ = some (.pointer (some ⟨e, 0, none⟩)) := by rw [cell_of_row w o 0 _ 53 (0, 0) h.hd]; rfl
theorem Ov.c1 (h : Ov B w o e g E G d) : w.cell? ⟨o, 1, none⟩ = some (.pointer (some ⟨g, 0, none⟩)) := by rw [cell_of_row w o 1 _ 53 (0, 0) h.hd]; rfl
theorem Ov.c2 (h : Ov B w o e g E G d) : w.cell? ⟨o, 2, none⟩ = some (.bool d) := by rw [cell_of_row w o 2 _ 53 (0, 0) h.hd]; rfl
theorem Ov.free (h : Ov B w o e g E G d) (k : Nat) : w.frozen? ⟨o, k, none⟩ = false := frozen_of_row w o k _ 53 h.hd
theorem Ov.oe (h : Ov B w o e g E G d) : o ≠ e := blk_ne h.hd h.eb (by decide)
theorem Ov.og (h : Ov B w o e g E G d) : o ≠ g := blk_ne h.hd h.gb (by decide)
theorem Ov.setd (h : Ov B w o e g E G d) (d' : Bool) : Ov B (w.setCell ⟨o, 2, none⟩ (.bool d')) o e g E G d' :=
  ⟨by rw [heap_setCell_same w o 2 _ 53 _ h.hd]; rfl, h.eb.other (Ne.symm h.oe), h.gb.other (Ne.symm h.og), h.sp, h.ne, h.bo, h.be, h.bg⟩
end

theorem all_nil (w : World) : Calls Try.prog 37 #[.pointer none] w fun e w' => e = .returned (.slice none 0 0) ∧ w' = w := by
  go_enter Try.func37, Try.ntmps37
  go_wp2
  go_ret
  exact ⟨rfl, rfl⟩
theorem has_nil (i : Int) (w : World) : Calls Try.prog 40 #[.pointer none, .int .i64 i] w fun e w' => e = .returned (.bool false) ∧ w' = w := by
  by_cases h0 : 0 ≤ i
  · have h1 : decide (i < 0) = false := decide_eq_false (by omega)
    go_enter Try.func40, Try.ntmps40
    go_wp2_with fail
    refine (all_nil _).mono ?_
    rintro _ _ ⟨rfl, rfl⟩
    go_wp2
    go_ret
    exact ⟨rfl, rfl⟩
  · go_enter Try.func40, Try.ntmps40
    go_wp2
    go_ret
    exact ⟨rfl, rfl⟩
theorem get_ed (p : Option Addr) (es : Option (List Int)) (i : Int) (w : World) (h : Ed w p es) : Calls Try.prog 29 #[.pointer p, .int .i64 i] w fun e w' => e = .returned (.int .i64 (edK es i)) ∧ w' = w := by
  rcases h.h with ⟨rfl, rfl⟩ | ⟨e, l, rfl, rfl, hB, hl, hk⟩
  · go_enter Try.func29, Try.ntmps29
    go_wp2_with fail
    refine (has_nil i _).mono ?_
    rintro _ _ ⟨rfl, rfl⟩
    go_wp2
    go_ret
    exact ⟨rfl, rfl⟩
  · exact get_c e l i w hB hl hk
theorem block_c (k : Int) (w : World) : Calls Try.prog 30 #[.int .i64 k] w fun e w' => e = .returned (.bool (isB k)) ∧ w' = w := by
  unfold isB
  by_cases h0 : 0 ≤ k
  · by_cases h1 : k < 16
    · go_enter Try.func30, Try.ntmps30
      go_wp2
      go_ret
      exact ⟨ret_bool (by simp; omega), rfl⟩
    · go_enter Try.func30, Try.ntmps30
      go_wp2
      go_ret
      exact ⟨ret_bool (by simp; omega), rfl⟩
  · go_enter Try.func30, Try.ntmps30
    go_wp2
    go_ret
    exact ⟨ret_bool (by simp; omega), rfl⟩
/-- The closure that tells the edited cells. -/
theorem clos_c (p : Option Addr) (es : Option (List Int)) (g : Nat) (G : List Int) (x y : Nat) (i : Int) (w : World) (hE : Ed w p es) (hG : Blk w g 67 G) (gl : G.length = 32768) (gk : Kinds G)
    (hx : w.cell? ⟨x, 0, none⟩ = some (.pointer p)) (hy : w.cell? ⟨y, 0, none⟩ = some (.pointer (some ⟨g, 0, none⟩))) :
    Calls Try.prog 41 #[.int .i64 i, .pointer (some ⟨x, 0, none⟩), .pointer (some ⟨y, 0, none⟩)] w fun e w' => e = .returned (.bool (inE es G i)) ∧ w' = w := by
  unfold inE
  have h1 := get_ed p es i w hE
  have h2 := get_c g G i w hG gl gk
  have h3 := block_c (edK es i) w
  generalize edK es i = k at *
  generalize getC G i = v at *
  clear hE hG gl gk
  cases hb : isB k
  · rw [hb] at h3
    go_enter Try.func41, Try.ntmps41
    go_wp2_with fail
    refine h1.mono ?_
    clear h1 h2
    rintro _ _ ⟨rfl, rfl⟩
    go_wp2_with fail
    refine h3.mono ?_
    clear h3
    rintro _ _ ⟨rfl, rfl⟩
    go_wp2
    go_ret
    exact ⟨rfl, rfl⟩
  · rw [hb] at h3
    go_enter Try.func41, Try.ntmps41
    go_wp2_with fail
    refine h1.mono ?_
    clear h1
    rintro _ _ ⟨rfl, hw⟩
    subst hw
    go_wp2_with fail
    refine h3.mono ?_
    clear h3
    rintro _ _ ⟨rfl, hw⟩
    subst hw
    go_wp2_with fail
    refine h2.mono ?_
    clear h2
    rintro _ _ ⟨rfl, hw⟩
    subst hw
    go_wp2
    go_ret
    exact ⟨rfl, rfl⟩
theorem edited_c (p q : Option Addr) (w : World) : Calls Try.prog 35 #[.pointer q, .pointer p] w fun e w' => e = .returned (.func (.func 41) #[] #[.pointer (some ⟨w.heap.size + 1, 0, none⟩), .pointer (some ⟨w.heap.size, 0, none⟩)]) ∧ w' = (w.alloc (.cells #[.pointer q] 39)).alloc (.cells #[.pointer p] 39) := by
  go_enter Try.func35, Try.ntmps35
  go_wp2
  go_ret
  exact ⟨rfl, rfl⟩
set_option maxHeartbeats 1000000 in
theorem laid_c (g : Nat) (Z : List Int) (p : Option Addr) (es : Option (List Int)) (g2 : Nat) (G : List Int) (x y : Nat) (w : World) (hZ : Blk w g 67 Z) (zl : Z.length = 32768) (zk : Kinds Z) (hE : Ed w p es) (hG : Blk w g2 67 G) (gl : G.length = 32768) (gk : Kinds G)
    (hx : w.cell? ⟨x, 0, none⟩ = some (.pointer p)) (hy : w.cell? ⟨y, 0, none⟩ = some (.pointer (some ⟨g2, 0, none⟩))) :
    Calls Try.prog 33 #[.pointer (some ⟨g, 0, none⟩), .pointer p, .func (.func 41) #[] #[.pointer (some ⟨x, 0, none⟩), .pointer (some ⟨y, 0, none⟩)]] w fun e w' => e = .returned (.pointer (some ⟨w.heap.size, 0, none⟩)) ∧ ∃ cs, Blk w' w.heap.size 67 cs ∧ cs.length = 32768 ∧ Kinds cs ∧ (∀ j, j < 32768 → cs.getD j 0 = if inE es G j = true then edK es j else Z.getD j 0) ∧ Below w.heap.size w w' := by
  have hen : ∀ args w, (callFunc 41 args).run Try.prog w = .ok (.enter 41 args) w := enters_of Try.func41 (by kernel_rfl) rfl
  obtain ⟨Post, hPost⟩ : ∃ Post : Ending → World → Prop, Post = fun e w' => e = .returned (.pointer (some ⟨w.heap.size, 0, none⟩)) ∧ ∃ cs, Blk w' w.heap.size 67 cs ∧ cs.length = 32768 ∧ Kinds cs ∧ (∀ j, j < 32768 → cs.getD j 0 = if inE es G j = true then edK es j else Z.getD j 0) ∧ Below w.heap.size w w' := ⟨_, rfl⟩
  rw [← hPost]
  have HP : Hid (∀ w' cs, Blk w' w.heap.size 67 cs → cs.length = 32768 → Kinds cs → (∀ j, j < 32768 → cs.getD j 0 = if inE es G j = true then edK es j else Z.getD j 0) → Below w.heap.size w w' → Post (.returned (.pointer (some ⟨w.heap.size, 0, none⟩))) w') := fun w' cs h1 h2 h3 h4 h5 => by rw [hPost]; exact ⟨rfl, cs, h1, h2, h3, h4, h5⟩
  clear hPost
  have Hx : Hid (w.cell? ⟨x, 0, none⟩ = some (.pointer p)) := hx
  have Hy : Hid (w.cell? ⟨y, 0, none⟩ = some (.pointer (some ⟨g2, 0, none⟩))) := hy
  clear hx hy
  have hc := copy_c g Z w hZ zl
  go_enter Try.func33, Try.ntmps33
  go_wp2_with fail
  refine hc.mono ?_
  clear hc
  rintro _ w1 ⟨rfl, hw⟩
  have hB1 : Blk w1 w.heap.size 67 Z := by rw [hw]; exact Blk.new w 67 _
  have hb1 : Below w.heap.size w w1 := by rw [hw]; exact (Below.refl _ _).alloc (Nat.le_refl _) _
  clear hw hZ
  go_wp2
  go_loopw [11] (fun i wr => ∃ (n : Nat) (cs : List Int), n ≤ 32768 ∧ i = .int .i64 n ∧ Blk wr w.heap.size 67 cs ∧ cs.length = 32768 ∧ Kinds cs ∧ Hid (∀ j, j < 32768 → cs.getD j 0 = if j < n ∧ inE es G j = true then edK es j else Z.getD j 0) ∧ Below w.heap.size w wr) (fun i _ => 32768 - (intOf i).toNat)
  case atStart => exact ⟨0, Z, Nat.zero_le _, rfl, hB1, zl, zk, fun j _ => by rw [if_neg (by omega)], hb1⟩
  case round =>
    obtain ⟨n, cs, hn, rfl, hB, hl, hk, HC, hb⟩ := hrel
    clear hB1 hb1
    by_cases hlt : n < 32768
    · have hlt' : (n : Int) < 32768 := by omega
      have hcl := clos_c p es g2 G x y n wr (hE.below hb) (hG.on hb) gl gk ((hb.cell (p := ⟨x, 0, none⟩) (cell_lt Hx.out)).trans Hx.out) ((hb.cell (p := ⟨y, 0, none⟩) (cell_lt Hy.out)).trans Hy.out)
      cases hin : inE es G n
      · rw [hin] at hcl
        go_wp2_with fail
        refine hcl.mono ?_
        clear hcl
        rintro _ _ ⟨rfl, hw⟩
        subst hw
        go_wp2
        go_roundw
        case rel =>
          refine ⟨n + 1, cs, by omega, by go_num, hB, hl, hk, fun j hj => ?_, hb⟩
          rw [HC.out j hj]
          by_cases e : j = n
          · subst e; rw [if_neg (by omega), if_neg (by rw [hin]; simp)]
          · by_cases c : inE es G j = true
            · by_cases q : j < n
              · rw [if_pos ⟨q, c⟩, if_pos ⟨by omega, c⟩]
              · rw [if_neg (fun h => q h.1), if_neg (fun h => by omega)]
            · rw [if_neg (fun h => c h.2), if_neg (fun h => c h.2)]
        case measure => simp [intOf]; omega
      · rw [hin] at hcl
        have hk' : 0 ≤ edK es n ∧ edK es n < 16 := by
          have := hin
          unfold inE at this
          rw [Bool.and_eq_true] at this
          exact of_decide_eq_true this.1
        have hge := get_ed p es n wr (hE.below hb)
        obtain ⟨K, hK⟩ : ∃ K, edK es n = K := ⟨_, rfl⟩
        rw [hK] at hge hk'
        have HK : Hid (edK es n = K) := hK
        clear hK
        have hst := set_c w.heap.size cs n K wr hB hl
        obtain ⟨e1, e2⟩ := okSet_yes (i := n) (k := K) (by omega) cs
        rw [e1, e2, Int.toNat_natCast] at hst
        clear e1 e2
        go_wp2_with fail
        refine hcl.mono ?_
        clear hcl
        rintro _ _ ⟨rfl, hw⟩
        subst hw
        go_wp2_with fail
        refine hge.mono ?_
        clear hge
        rintro _ _ ⟨rfl, hw⟩
        subst hw
        go_wp2_with fail
        refine hst.mono ?_
        clear hst
        rintro _ w2 ⟨rfl, hB2, ho⟩
        have R := hb.trans (ho.below (Nat.le_refl _))
        clear ho
        go_wp2
        go_roundw
        case rel =>
          refine ⟨n + 1, cs.set n K, by omega, by go_num, hB2, by rw [List.length_set]; exact hl, Kinds.put hk n hk'.1 (by omega), fun j hj => ?_, R⟩
          by_cases e : n = j
          · subst e
            rw [getD_set_self _ _ _ (by omega), if_pos ⟨by omega, hin⟩, HK.out]
          · rw [C.getD_set_ne _ _ e, HC.out j hj]
            by_cases c : inE es G j = true
            · by_cases q : j < n
              · rw [if_pos ⟨q, c⟩, if_pos ⟨by omega, c⟩]
              · rw [if_neg (fun h => q h.1), if_neg (fun h => by omega)]
            · rw [if_neg (fun h => c h.2), if_neg (fun h => c h.2)]
        case measure => simp [intOf]; omega
    · obtain rfl : n = 32768 := by omega
      have R := HP.out wr cs hB hl hk (fun j hj => by
        rw [HC.out j hj]
        by_cases c : inE es G j = true
        · rw [if_pos ⟨hj, c⟩, if_pos c]
        · rw [if_neg (fun h => c h.2), if_neg c]) hb
      go_wp2
      exact R
end Go.Proofs.Ythanmgejgmhccaa
