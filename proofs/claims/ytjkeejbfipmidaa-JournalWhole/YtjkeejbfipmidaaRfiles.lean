/-
  The document's Files.
-/
import Derived.Test.YtjkeejbfipmidaaFins
namespace Go.Proofs.Ytjkeejbfipmidaa
open Go.RowKit

/-- The files of the first j blocks. -/
def filesTo (l : List Bk) (j : Nat) : List Fl := filesOf ((at_ l).take j)
theorem filesTo_succ (l : List Bk) (j : Nat) (hj : j < l.length) : filesTo l (j + 1) = ins l[j].f (filesTo l j) := by
  unfold filesTo filesOf
  have h : (at_ l)[j]? = some (l[j].f, l[j].i) := by unfold at_; simp [hj]
  rw [List.take_add_one, h, List.foldl_append]
  rfl
theorem filesTo_all (l : List Bk) : filesTo l l.length = filesOf (at_ l) := by
  unfold filesTo
  rw [List.take_of_length_le (by simp [at_])]
/-- A world in which all that lay in w0 lies as it lay. -/
structure Since (w0 : World) where
  w : World
  bel : Below w0.heap.size w0 w
theorem since_ne (w0 : World) : Nonempty (Since w0) := ⟨⟨w0, Below.refl _ _⟩⟩
theorem Since.cell {w0 : World} {p : Addr} {v : Value} (h : w0.cell? p = some v) (s : Since w0) : s.w.cell? p = some v :=
  (s.bel.cell (World.block_lt_of_cell? w0 p h)).trans h
theorem Calls.since {P : Program} {f : FuncId} {args : Array Value} {w0 : World} {s : Since w0} {v : Value} (h : Calls P f args s.w fun e w' => e = .returned v ∧ Below s.w.heap.size s.w w') :
    Calls P f args s.w fun e w'' => e = .returned v ∧ ∃ s' : Since w0, w'' = s'.w :=
  h.mono fun _ w' ⟨he, hb⟩ => ⟨he, ⟨w', s.bel.trans (hb.mono s.bel.size)⟩, rfl⟩
theorem wp_region_since {P : Program} {id : Nat} {Q : Exit → Act → World → Prop} {a : Act} {w : World} {l : List Oper} (hm : P.follows .mixedOrders = true) (hB : Region.lexB .any l.toArray = true)
    (h : wpQuiet P l.toArray (fun w' => ∃ s : Since w, w' = s.w) (fun a' => ∀ w', (∃ s : Since w, w' = s.w) → Q .normal a' w') l a) : (Code.region id l.toArray true).wp P Q a w :=
  wp_region_quiet (C := fun w' => ∃ s : Since w, w' = s.w) hm hB ⟨⟨_, (Below.refl _ w).drew⟩, rfl⟩ (by simpa using h)
theorem FRow.cells {w : World} {B : Nat} {a : Option Addr} {n c : Nat} {fs : List Fl} (h : FRow w B a n c fs) {k : Nat} (hk : k < fs.length) : ∃ g, a = some ⟨g, 0, none⟩ ∧ w.cell? ⟨g, k * 3, none⟩ = some (.int .i64 fs[k].1) ∧ w.cell? ⟨g, k * 3 + 1, none⟩ = some (.int .i64 fs[k].2.1) ∧ w.cell? ⟨g, k * 3 + 2, none⟩ = some (.int .i64 fs[k].2.2) := by
  have hn := h.len
  rcases h.form with ⟨_, h0, _⟩ | ⟨g, rfl, _⟩
  · omega
  · obtain ⟨c0, c1, c2⟩ := fcells_at fs k hk
    exact ⟨g, rfl, by rw [World.ownsRow.cellAt h _ (by omega)]; exact c0, by rw [World.ownsRow.cellAt h _ (by omega)]; exact c1, by rw [World.ownsRow.cellAt h _ (by omega)]; exact c2⟩

/-- The file in its box. -/
def At3 (X : Nat) (y1 y2 y3 : Int) (w' : World) : Prop := w'.cell? ⟨X, 0, none⟩ = some (.int .i64 y1) ∧ w'.cell? ⟨X, 1, none⟩ = some (.int .i64 y2) ∧ w'.cell? ⟨X, 2, none⟩ = some (.int .i64 y3)
theorem keepB {w w' : World} {b m : Nat} {v : Value} (hb : Below w.heap.size w w') (hv : w.cell? ⟨b, m, none⟩ = some v) : w'.cell? ⟨b, m, none⟩ = some v := by
  rw [← hv]; exact hb.cell (p := ⟨b, m, none⟩) (World.block_lt_of_cell? w _ hv)
theorem row_lt {w : World} {B : Nat} {a : Option Addr} {n c : Nat} {fs : List Fl} (h : FRow w B a n c fs) : ∀ g0, a = some ⟨g0, 0, none⟩ → g0 < w.heap.size := fun g0 e => by
  rcases h.form with ⟨e2, _⟩ | ⟨g, e2, _, hg, _⟩
  · rw [e2] at e; cases e
  · rw [e2] at e; cases e; exact hg
theorem row_cap {w : World} {B : Nat} {a : Option Addr} {n c : Nat} {fs : List Fl} (h : FRow w B a n c fs) : n ≤ c := by
  rcases h.form with ⟨_, h1, h2⟩ | ⟨_, _, _, _, h⟩
  · omega
  · exact h
theorem alloc_new3 (w : World) (y1 y2 y3 : Int) : (w.alloc (.cells #[.int .i64 y1, .int .i64 y2, .int .i64 y3] 38)).heap[w.heap.size]? = some (.cells (fcells [(y1, y2, y3)]).toArray 38 (0, 0)) := heap_alloc_new w _
theorem at3_kept {X n c : Nat} {y1 y2 y3 : Int} {w w' : World} {a : Option Addr} (h : At3 X y1 y2 y3 w) (hg : w.grownBy w' (Value.ownBlock (.slice a n c))) (hX : ∀ g0, a = some ⟨g0, 0, none⟩ → g0 ≠ X) (ha : ∀ p, a = some p → ∃ g0, p = ⟨g0, 0, none⟩ := by intro p hp; first | (cases hp; exact ⟨_, rfl⟩) | cases hp) : At3 X y1 y2 y3 w' := by
  have hk : ∀ m v, w.cell? ⟨X, m, none⟩ = some v → w'.cell? ⟨X, m, none⟩ = some v := fun m v hv => by
    rw [← hv]
    refine World.cell?_of_block (a := ⟨X, m, none⟩) (hg.block X (World.block_lt_of_cell? w _ hv) (fun e => ?_))
    cases a with
    | none => cases e
    | some p =>
      obtain ⟨g0, rfl⟩ := ha p rfl
      cases e
      exact hX _ rfl rfl
  exact ⟨hk _ _ h.1, hk _ _ h.2.1, hk _ _ h.2.2⟩
theorem rest_kept {w5 w6 w7 : World} {B n k t c5 m : Nat} {a a5 : Option Addr} {fs gs : List Fl} (h : FRow w5 B a5 m c5 fs) (hb : Below w5.heap.size w5 w6) (hg : w6.grownBy w7 (Value.ownBlock (.slice a t k))) (hlt : ∀ g0, a = some ⟨g0, 0, none⟩ → g0 < B) (ha : ∀ p, a = some p → ∃ g0, p = ⟨g0, 0, none⟩ := by intro p hp; first | (cases hp; exact ⟨_, rfl⟩) | cases hp) (hm : m = n := by omega) (hf : fs = gs := by simp) : FRow w7 B a5 n c5 gs := by
  subst hm hf
  refine World.ownsRow.kept (h.later hb) hg ?_
  rcases h.form with ⟨rfl, _⟩ | ⟨g5, rfl, h5, _⟩
  · exact Or.inl rfl
  · right
    intro e
    cases a with
    | none => cases e
    | some p =>
      obtain ⟨g0, rfl⟩ := ha p rfl
      cases e
      have := hlt _ rfl
      omega
theorem rest_nil {w : World} {B n c : Nat} {a : Option Addr} {fs : List Fl} (h : FRow w B a n c fs) : a = none → n = 0 ∧ c = 0 := fun e => by
  rcases h.form with ⟨_, h1, h2⟩ | ⟨g, e2, _⟩
  · exact ⟨h1, h2⟩
  · rw [e] at e2; cases e2
theorem rest_sp {w : World} {B n c : Nat} {a : Option Addr} {fs : List Fl} (h : FRow w B a n c fs) : ∀ p, a = some p → ∃ b o, p = ⟨b, o, none⟩ := fun p e => by
  rcases h.form with ⟨e2, _⟩ | ⟨g, e2, _⟩
  · rw [e2] at e; cases e
  · rw [e2] at e; cases e; exact ⟨_, _, rfl⟩
theorem drop_fls {w : World} {B n k t : Nat} {a A : Option Addr} {fs : List Fl} (h : FRow w B a n k fs) (ht : t ≤ n) (hA : (a = none ∧ A = none) ∨ ∃ b o, a = some ⟨b, 0, none⟩ ∧ A = some ⟨b, o, none⟩ ∧ (t = k ∨ o = t * 3)) : Fls w A (n - t) (fs.drop t) := by
  have hn := h.len
  rcases hA with ⟨rfl, rfl⟩ | ⟨b, o, rfl, rfl, ho⟩
  · have h0 := (rest_nil h rfl).1
    exact ⟨by rw [List.length_drop]; omega, fun m hm => by rw [List.length_drop] at hm; omega⟩
  · refine h.fls.drop ht ?_ ho
    rcases h.form with ⟨e, _⟩ | ⟨_, _, _, _, hc⟩
    · cases e
    · exact hc
theorem drop_nil {w : World} {B n k t : Nat} {a A : Option Addr} {fs : List Fl} (h : FRow w B a n k fs) (hA : (a = none ∧ A = none) ∨ ∃ b o, a = some ⟨b, 0, none⟩ ∧ A = some ⟨b, o, none⟩ ∧ (t = k ∨ o = t * 3)) : A = none → n - t = 0 ∧ k - t = 0 := fun e => by
  rcases hA with ⟨rfl, rfl⟩ | ⟨b, o, rfl, rfl, ho⟩
  · have h0 := rest_nil h rfl
    omega
  · cases e
theorem drop_sp {k t : Nat} {a A : Option Addr} (hA : (a = none ∧ A = none) ∨ ∃ b o, a = some ⟨b, 0, none⟩ ∧ A = some ⟨b, o, none⟩ ∧ (t = k ∨ o = t * 3)) : ∀ p, A = some p → ∃ b o, p = ⟨b, o, none⟩ := fun p e => by
  rcases hA with ⟨rfl, rfl⟩ | ⟨b, o, rfl, rfl, ho⟩
  · cases e
  · cases e; exact ⟨_, _, rfl⟩

set_option maxHeartbeats 4000000 in
theorem rfiles_c (F : Nat → Prop) (g : Nat) (S : St) (w : World) (hD : RDisk F w g S) :
    Calls Try.prog 35 #[.pointer (some ⟨g, 0, none⟩)] w fun e w' => ∃ a n c, e = .returned (.slice a n c) ∧ Fls w' a n (filesOf (at_ S.l)) ∧ Below w.heap.size w w' := by
  obtain ⟨a, c, q, hD⟩ := hD
  obtain ⟨Post, hPost⟩ : ∃ Post : Ending → World → Prop, Post = fun e w' => ∃ a n c, e = .returned (.slice a n c) ∧ Fls w' a n (filesOf (at_ S.l)) ∧ Below w.heap.size w w' := ⟨_, rfl⟩
  rw [← hPost]
  have HP : Hid (∀ a n c w' fs, fs = filesTo S.l S.l.length → Fls w' a n fs → Below w.heap.size w w' → Post (.returned (.slice a n c)) w') := fun a n c w' fs h0 h1 h2 => by
    rw [filesTo_all] at h0; subst h0; rw [hPost]; exact ⟨a, n, c, rfl, h1, h2⟩
  clear hPost
  have HD : Hid (RD F w g S a c q) := hD
  have hg := hD.glt
  have hlen := hD.bds.2.2.2.2
  clear hD
  go_enter Try.func35, Try.ntmps35
  go_wp2
  obtain ⟨N, hN⟩ : ∃ N, N = S.l.length := ⟨_, rfl⟩
  have HN : Hid (S.l.length = N) := hN.symm
  rw [← hN] at hlen
  clear hN
  go_loopw [3, 4] (fun u v wr => ∃ (j n k : Nat) (b : Option Addr) (fs : List Fl), u = .slice b n k ∧ v = .int .i64 (j : Int) ∧ j ≤ N ∧ n ≤ j ∧ Hid (fs = filesTo S.l j) ∧ Hid (FRow wr w.heap.size b n k fs) ∧ Hid (Below w.heap.size w wr)) (fun _ v _ => N - (intOf v).toNat)
  case atStart => exact ⟨0, 0, 0, none, [], rfl, rfl, Nat.zero_le _, Nat.le_refl _, rfl, FRow.nil _ _, Below.refl _ _⟩
  case round =>
    obtain ⟨j, n, k, b, fs, rfl, rfl, hj, hnj, HJ, HR, HB⟩ := hrel
    have HDr : Hid (RD F wr g S a c q) := HD.out.inside HB.out
    have hh := HDr.out.head0
    rw [HN.out] at hh
    by_cases hlt : j < N
    · have hlt' : (j : Int) < N := by omega
      have hjl : j < S.l.length := by rw [HN.out]; exact hlt
      obtain ⟨b0, hq, rfl, k0, k1, k2, _, _, _⟩ := HDr.out.cells (j := j) hjl
      have HF : Hid (filesTo S.l (j + 1) = ins (S.l[j].f.1, S.l[j].f.2.1, S.l[j].f.2.2) fs) := by show _ = _; rw [filesTo_succ _ _ hjl, HJ.out]
      clear HJ HDr
      generalize S.l[j].f.1 = y1 at *
      generalize S.l[j].f.2.1 = y2 at *
      generalize S.l[j].f.2.2 = y3 at *
      go_wp2
      obtain ⟨hbx, x0, x1, x2⟩ := box_new wr y1 y2 y3
      have HR1 : Hid (FRow (wr.alloc (.cells #[.int .i64 y1, .int .i64 y2, .int .i64 y3] 38)) w.heap.size b n k fs) := HR.out.later hbx
      have HB1 : Hid (Below w.heap.size w (wr.alloc (.cells #[.int .i64 y1, .int .i64 y2, .int .i64 y3] 38))) := HB.out.trans (hbx.mono HB.out.size)
      have hX : wr.heap.size < (wr.alloc (.cells #[.int .i64 y1, .int .i64 y2, .int .i64 y3] 38)).heap.size := by rw [World.size_alloc]; omega
      have hfl := HR.out.len
      have HX : Hid (∀ g0, b = some ⟨g0, 0, none⟩ → g0 ≠ wr.heap.size) := fun g0 e => by have := row_lt HR.out g0 e; omega
      obtain ⟨i38, hi38, hz300, hz301, hz302⟩ := info_parts info38
      clear HR HB hbx k0 k1 k2 hh
      generalize wr.heap.size = X at *
      generalize wr.alloc (.cells #[.int .i64 y1, .int .i64 y2, .int .i64 y3] 38) = w1 at *
      go_loopw [6] (fun v wi => ∃ (t : Nat), t ≤ n ∧ v = .int .i64 (t : Int) ∧ Hid (∀ m (hm : m < fs.length), m < t → ltF fs[m] (y1, y2, y3) = true) ∧ Hid (Below w1.heap.size w1 wi)) (fun v _ => n - (intOf v).toNat)
      case atStart => exact ⟨0, Nat.zero_le _, rfl, fun m _ h => absurd h (Nat.not_lt_zero _), Below.refl _ _⟩
      case round =>
        obtain ⟨t, ht, rfl, HT, Hi⟩ := hrel
        have HR2 : Hid (FRow wr w.heap.size b n k fs) := HR1.out.later Hi.out
        have HB2 : Hid (Below w.heap.size w wr) := HB1.out.trans (Hi.out.mono HB1.out.size)
        have keep : ∀ m v, w1.cell? ⟨X, m, none⟩ = some v → wr.cell? ⟨X, m, none⟩ = some v := fun m v hv => by rw [← hv]; exact Hi.out.cell (p := ⟨X, m, none⟩) (World.block_lt_of_cell? w1 _ hv)
        have z0 := keep _ _ x0
        have z1 := keep _ _ x1
        have z2 := keep _ _ x2
        have hXr : X < wr.heap.size := Nat.lt_of_lt_of_le hX Hi.out.size
        have hne := since_ne wr
        have s0 : ∀ s : Since wr, s.w.cell? ⟨X, 0, none⟩ = some (.int .i64 y1) := fun s => s.cell z0
        have s1 : ∀ s : Since wr, s.w.cell? ⟨X, 1, none⟩ = some (.int .i64 y2) := fun s => s.cell z1
        have s2 : ∀ s : Since wr, s.w.cell? ⟨X, 2, none⟩ = some (.int .i64 y3) := fun s => s.cell z2
        clear keep x0 x1 x2
        by_cases hlt2 : t < n
        · have hlt2' : (t : Int) < n := by omega
          have htl : t < fs.length := by omega
          obtain ⟨gl, rfl, d0, d1, d2⟩ := HR2.out.cells htl
          obtain ⟨⟨v1, v2, v3⟩, hv⟩ : ∃ z : Fl, z = fs[t] := ⟨_, rfl⟩
          rw [← hv] at d0 d1 d2
          simp only [] at d0 d1 d2
          have e0 : ∀ s : Since wr, s.w.cell? ⟨gl, t * 3, none⟩ = some (.int .i64 v1) := fun s => s.cell d0
          have e1 : ∀ s : Since wr, s.w.cell? ⟨gl, t * 3 + 1, none⟩ = some (.int .i64 v2) := fun s => s.cell d1
          have e2 : ∀ s : Since wr, s.w.cell? ⟨gl, t * 3 + 2, none⟩ = some (.int .i64 v3) := fun s => s.cell d2
          by_cases hl : ltF (v1, v2, v3) (y1, y2, y3) = true
          · have HT2 : Hid (∀ m (hm : m < fs.length), m < t + 1 → ltF fs[m] (y1, y2, y3) = true) := fun m hm hmt => by
              by_cases e : m = t
              · subst e; rw [← hv]; exact hl
              · exact HT.out m hm (by omega)
            have Hi2 : Hid (∀ s : Since wr, Below w1.heap.size w1 s.w) := fun s => Hi.out.trans (s.bel.mono Hi.out.size)
            clear HT Hi HR1 HB1 HR2 HB2 HF HP HD z0 z1 z2 d0 d1 d2 hv
            go_wp2_with fail
            refine wp_region_since (by kernel_rfl) (by kernel_rfl) ?_
            repeat (go_big_quiet_step (first | (go_at_call 49; exact Calls.since (rless_c _ _ _ _ _ _ _))))
            refine wpQuiet_nil ?_
            rintro _ ⟨s, rfl⟩
            go_wp2
            go_roundw
            case rel => exact ⟨t + 1, by omega, by go_num, HT2, Hi2.out s⟩
            case measure => simp [intOf]; omega
          · have hl' : ltF (v1, v2, v3) (y1, y2, y3) = false := by simpa using hl
            have HA : Hid (ins (y1, y2, y3) fs = if (v1, v2, v3) = (y1, y2, y3) then fs else fs.take t ++ (y1, y2, y3) :: fs.drop t) := by
              show _ = _
              rw [ins_at fs (y1, y2, y3) t (by omega) HT.out (fun _ => by rw [← hv]; exact hl'), List.getElem?_eq_getElem htl, ← hv]
              simp only [Option.some.injEq]
            clear hl HT HR1 HB1 hv d0 d1 d2 z0 z1 z2
            go_wp2_with fail
            refine wp_region_since (by kernel_rfl) (by kernel_rfl) ?_
            repeat (go_big_quiet_step (first | (go_at_call 49; exact Calls.since (rless_c _ _ _ _ _ _ _))))
            refine wpQuiet_nil ?_
            rintro _ ⟨s, rfl⟩
            have HR3 : Hid (FRow s.w w.heap.size (some ⟨gl, 0, none⟩) n k fs) := HR2.out.later s.bel
            have HB3 : Hid (Below w.heap.size w s.w) := HB2.out.trans (s.bel.mono HB2.out.size)
            have hX3 : X < s.w.heap.size := Nat.lt_of_lt_of_le hXr s.bel.size
            have z0' := s0 s
            have z1' := s1 s
            have z2' := s2 s
            have e0' := e0 s
            have e1' := e1 s
            have e2' := e2 s
            clear HR2 HB2 s0 s1 s2 e0 e1 e2 hne Hi
            generalize s.w = w3 at *
            go_wp2_with fail
            by_cases q1 : v1 = y1
            · by_cases q2 : v2 = y2
              · by_cases q3 : v3 = y3
                · have HA2 : Hid (fs = filesTo S.l (j + 1)) := (HF.out.trans (HA.out.trans (if_pos (by rw [q1, q2, q3])))).symm
                  subst q1 q2 q3
                  have HR4 : Hid (∀ m, FRow (w3.drewN m) w.heap.size (some ⟨gl, 0, none⟩) n k fs) := fun _ => HR3.out
                  have HB4 : Hid (∀ m, Below w.heap.size w (w3.drewN m)) := fun _ => ⟨HB3.out.os, HB3.out.tape, HB3.out.output, HB3.out.size, HB3.out.block⟩
                  clear HA HF HR3 HB3
                  go_big_quiet (fail)
                  go_wp2
                  go_roundw
                  case rel => exact ⟨j + 1, n, k, _, fs, rfl, by go_num, by omega, by omega, HA2, HR4.out _, HB4.out _⟩
                  case measure => simp [intOf]; omega
                · have q3' : (v3 == y3) = false := by simp [q3]
                  have q1' : (v1 == y1) = true := by simp [q1]
                  have q2' : (v2 == y2) = true := by simp [q2]
                  go_big_quiet (fail)
                  have HR4 : Hid (FRow (w3.drewN nq) w.heap.size (some ⟨gl, 0, none⟩) n k fs) := HR3.out
                  have HB4 : Hid (Below w.heap.size w (w3.drewN nq)) := ⟨HB3.out.os, HB3.out.tape, HB3.out.output, HB3.out.size, HB3.out.block⟩
                  have p0 : (w3.drewN nq).cell? ⟨X, 0, none⟩ = some (.int .i64 y1) := z0'
                  have p1 : (w3.drewN nq).cell? ⟨X, 1, none⟩ = some (.int .i64 y2) := z1'
                  have p2 : (w3.drewN nq).cell? ⟨X, 2, none⟩ = some (.int .i64 y3) := z2'
                  have hB4 : w.heap.size ≤ (w3.drewN nq).heap.size := HB3.out.size
                  have HA2 : Hid (filesTo S.l (j + 1) = fs.take t ++ (y1, y2, y3) :: fs.drop t) := HF.out.trans (HA.out.trans (if_neg (fun h => q3 (by cases h; rfl))))
                  clear HR3 HB3 z0' z1' z2' HA HF
                  generalize w3.drewN nq = w4 at *
                  have hform : ((some ⟨gl, 0, none⟩) : Option Addr) = none ∨ ∃ b, ((some ⟨gl, 0, none⟩) : Option Addr) = some ⟨b, 0, none⟩ := Or.inr ⟨gl, rfl⟩
                  have hnk := HR4.out.form
                  obtain ⟨A, hsl, hA⟩ := slice_from50 (some ⟨gl, 0, none⟩) n k t hform (by omega)
                  have hst := slice_to50 (some ⟨gl, 0, none⟩) n k t hform (by have := row_cap HR4.out; omega)
                  have HX4 : Hid (Fls w4 A (n - t) (fs.drop t)) := drop_fls HR4.out (by omega) hA
                  have Hnil : Hid (A = none → n - t = 0 ∧ k - t = 0) := drop_nil HR4.out hA
                  have Hsp : Hid (∀ p, A = some p → ∃ b o, p = ⟨b, o, none⟩) := drop_sp hA
                  clear hform hnk hA
                  go_upto_region 11 with (at_builtin; refine wpList_append_fls rfl (.const (.slice none 0 0)) (.tmp 53) rfl w4.heap.size none 0 0 [] rfl (FRow.nil _ _) A (n - t) (k - t) (fs.drop t) rfl HX4.out Hnil.out Hsp.out (by omega) w4 (Below.refl _ _) (Nat.le_refl _) ?_; intro a5 c5 w5 HO5 hb5 hs5)
                  have Hb5 : Hid (Below w4.heap.size w4 w5) := hb5
                  clear hb5 HX4 Hnil Hsp hsl
                  refine region_L (At3 X y1 y2 y3) 6 (by kernel_rfl) ?_
                  have HR5 : Hid (FRow w5.drew w.heap.size (some ⟨gl, 0, none⟩) n k fs) := HR4.out.later Hb5.out.drew
                  have HB5 : Hid (Below w.heap.size w w5.drew) := HB4.out.trans (Hb5.out.drew.mono hB4)
                  have HO6 : Hid (FRow w5.drew w4.heap.size a5 (0 + (n - t)) c5 ([] ++ fs.drop t)) := HO5.out
                  have hs6 : w4.heap.size ≤ w5.drew.heap.size := hs5
                  have r0 : w5.drew.cell? ⟨X, 0, none⟩ = some (.int .i64 y1) := (keepB Hb5.out.drew p0)
                  have r1 : w5.drew.cell? ⟨X, 1, none⟩ = some (.int .i64 y2) := (keepB Hb5.out.drew p1)
                  have r2 : w5.drew.cell? ⟨X, 2, none⟩ = some (.int .i64 y3) := (keepB Hb5.out.drew p2)
                  have HG4 : Hid (∀ g0, ((some ⟨gl, 0, none⟩) : Option Addr) = some ⟨g0, 0, none⟩ → g0 < w4.heap.size) := row_lt HR4.out
                  clear HO5 Hb5 hs5 p0 p1 p2 HR4 HB4
                  generalize w5.drew = v5 at *
                  have hHeld : (At3 X y1 y2 y3) _ := ⟨r0, r1, r2⟩
                  have hne : Nonempty (Sub (At3 X y1 y2 y3)) := ⟨⟨_, hHeld⟩⟩
                  have m0 : ∀ s : Sub (At3 X y1 y2 y3), s.w.cell? ⟨X, 0, none⟩ = some (.int .i64 y1) := fun s => s.ok.1
                  have m1 : ∀ s : Sub (At3 X y1 y2 y3), s.w.cell? ⟨X, 1, none⟩ = some (.int .i64 y2) := fun s => s.ok.2.1
                  have m2 : ∀ s : Sub (At3 X y1 y2 y3), s.w.cell? ⟨X, 2, none⟩ = some (.int .i64 y3) := fun s => s.ok.2.2
                  refine take_L (i := 0) rfl (by kernel_rfl) (by kernel_rfl) (by kernel_rfl) (by kernel_rfl) (fun _ _ _ _ h => h) (by exact hHeld) (fun K hK => ?_)
                  go_simp
                  refine hK _ ?_
                  clear hK K
                  refine take_L (i := 1) rfl (by kernel_rfl) (by kernel_rfl) (by kernel_rfl) (by kernel_rfl) (fun _ _ _ _ h => h) (by exact hHeld) (fun K hK => ?_)
                  go_simp
                  refine hK _ ?_
                  clear hK K
                  refine take_L (i := 2) rfl (by kernel_rfl) (by kernel_rfl) (by kernel_rfl) (by kernel_rfl) (fun _ _ _ _ h => h) (by exact hHeld) (fun K hK => ?_)
                  go_simp
                  refine hK _ ?_
                  clear hK K
                  refine take_L (i := 3) rfl (by kernel_rfl) (by kernel_rfl) (by kernel_rfl) (by kernel_rfl) (fun _ _ _ _ h => h) (by exact hHeld) (fun K hK => ?_)
                  go_simp
                  refine hK _ ?_
                  clear hK K
                  refine one_L (i := 4) (by kernel_rfl) rfl (fun K hK => ?_)
                  go_simp
                  have hw6 := alloc_new3 v5 y1 y2 y3
                  have Hb6 : Hid (Below v5.heap.size v5 (v5.alloc (.cells #[.int .i64 y1, .int .i64 y2, .int .i64 y3] 38))) := (Below.refl _ _).alloc (Nat.le_refl _) _
                  have hs7 : v5.heap.size < (v5.alloc (.cells #[.int .i64 y1, .int .i64 y2, .int .i64 y3] 38)).heap.size := by rw [World.size_alloc]; omega
                  generalize v5.alloc (.cells #[.int .i64 y1, .int .i64 y2, .int .i64 y3] 38) = w6 at *
                  replace hHeld : (At3 X y1 y2 y3) _ := ⟨keepB Hb6.out hHeld.1, keepB Hb6.out hHeld.2.1, keepB Hb6.out hHeld.2.2⟩
                  refine hK.out _ _ (fun _ => hHeld) ?_
                  clear hK K
                  refine one_L (i := 5) (by kernel_rfl) rfl (fun K hK => ?_)
                  refine step_append_lies _ rfl (.tmp 57) (.tmp 59) 50 rfl w.heap.size 38 i38 _ 3 24 Try.underlying50 hi38 hz300 hz301 hz302 rfl (by decide) (.slice (some ⟨gl, 0, none⟩) t k) t (fcells (fs.take t)) rfl ((HR5.out.later Hb6.out).cut (by omega)) ⟨v5.heap.size, 0, none⟩ 1 1 (fcells [(y1, y2, y3)]) rfl rfl (World.news_of_block hw6) (fcells_one _) (by omega) (by unfold maxLen; omega) (by omega) (by omega) _ rfl ?_
                  intro gb cap w7 hown7 hgr7 hat7 hlt7
                  have HO7 : Hid (FRow w7 w.heap.size (some ⟨gb, 0, none⟩) (t + 1) cap (fs.take t ++ [(y1, y2, y3)])) := by show FRow _ _ _ _ _ _; unfold FRow; rw [fcells_append]; exact hown7
                  have HB7 : Hid (Below w.heap.size w w7) := (HB5.out.trans (Hb6.out.mono (by omega))).grown hgr7 (by omega) (fun g0 hg0 => (((HR5.out.later Hb6.out).cut (k := t) (by omega)).lt g0 hg0).1)
                  have hB7 : w.heap.size ≤ w7.heap.size := by have := hgr7.size; omega
                  have HO8 : Hid (FRow w7 w4.heap.size a5 (n - t) c5 (fs.drop t)) := rest_kept HO6.out Hb6.out hgr7 HG4.out
                  have HS7 : Hid (At3 X y1 y2 y3 w6 → At3 X y1 y2 y3 w7) := fun h => at3_kept h hgr7 HX.out
                  clear hown7 hgr7 hat7
                  replace hHeld : (At3 X y1 y2 y3) _ := HS7.out hHeld
                  refine hK.out _ _ (fun _ => hHeld) ?_
                  clear hK K
                  refine one_L (i := 6) (by kernel_rfl) rfl (fun K hK => ?_)
                  go_simp
                  refine hK.out _ _ (fun h => absurd rfl h) ?_
                  clear hK K
                  refine done_L (by kernel_rfl) ?_ _
                  have Hl8 := HO8.out.fls
                  have Hn8 : Hid (a5 = none → n - t = 0 ∧ c5 = 0) := rest_nil HO8.out
                  have Hs8 : Hid (∀ p, a5 = some p → ∃ b o, p = ⟨b, o, none⟩) := rest_sp HO8.out
                  clear HS7 hHeld hne m0 m1 m2 r0 r1 r2 HR5 HB5 HO6 HG4 Hb6 hw6
                  go_wp2_with (at_builtin; refine wpList_append_fls rfl (.tmp 61) (.tmp 62) rfl w.heap.size (some ⟨gb, 0, none⟩) (t + 1) cap _ rfl HO7.out a5 (n - t) c5 (fs.drop t) rfl Hl8 Hn8.out Hs8.out (by omega) w HB7.out hB7 ?_; intro a9 c9 w9 HO9 hb9 hs9)
                  go_roundw
                  case rel => exact ⟨j + 1, t + 1 + (n - t), c9, a9, _, rfl, by go_num, by omega, by omega, by show _ = _; rw [HA2.out]; simp, HO9, hb9⟩
                  case measure => simp [intOf]; omega
              · have q2' : (v2 == y2) = false := by simp [q2]
                have q1' : (v1 == y1) = true := by simp [q1]
                go_big_quiet (fail)
                have HR4 : Hid (FRow (w3.drewN nq) w.heap.size (some ⟨gl, 0, none⟩) n k fs) := HR3.out
                have HB4 : Hid (Below w.heap.size w (w3.drewN nq)) := ⟨HB3.out.os, HB3.out.tape, HB3.out.output, HB3.out.size, HB3.out.block⟩
                have p0 : (w3.drewN nq).cell? ⟨X, 0, none⟩ = some (.int .i64 y1) := z0'
                have p1 : (w3.drewN nq).cell? ⟨X, 1, none⟩ = some (.int .i64 y2) := z1'
                have p2 : (w3.drewN nq).cell? ⟨X, 2, none⟩ = some (.int .i64 y3) := z2'
                have hB4 : w.heap.size ≤ (w3.drewN nq).heap.size := HB3.out.size
                have HA2 : Hid (filesTo S.l (j + 1) = fs.take t ++ (y1, y2, y3) :: fs.drop t) := HF.out.trans (HA.out.trans (if_neg (fun h => q2 (by cases h; rfl))))
                clear HR3 HB3 z0' z1' z2' HA HF
                generalize w3.drewN nq = w4 at *
                have hform : ((some ⟨gl, 0, none⟩) : Option Addr) = none ∨ ∃ b, ((some ⟨gl, 0, none⟩) : Option Addr) = some ⟨b, 0, none⟩ := Or.inr ⟨gl, rfl⟩
                have hnk := HR4.out.form
                obtain ⟨A, hsl, hA⟩ := slice_from50 (some ⟨gl, 0, none⟩) n k t hform (by omega)
                have hst := slice_to50 (some ⟨gl, 0, none⟩) n k t hform (by have := row_cap HR4.out; omega)
                have HX4 : Hid (Fls w4 A (n - t) (fs.drop t)) := drop_fls HR4.out (by omega) hA
                have Hnil : Hid (A = none → n - t = 0 ∧ k - t = 0) := drop_nil HR4.out hA
                have Hsp : Hid (∀ p, A = some p → ∃ b o, p = ⟨b, o, none⟩) := drop_sp hA
                clear hform hnk hA
                go_upto_region 11 with (at_builtin; refine wpList_append_fls rfl (.const (.slice none 0 0)) (.tmp 53) rfl w4.heap.size none 0 0 [] rfl (FRow.nil _ _) A (n - t) (k - t) (fs.drop t) rfl HX4.out Hnil.out Hsp.out (by omega) w4 (Below.refl _ _) (Nat.le_refl _) ?_; intro a5 c5 w5 HO5 hb5 hs5)
                have Hb5 : Hid (Below w4.heap.size w4 w5) := hb5
                clear hb5 HX4 Hnil Hsp hsl
                refine region_L (At3 X y1 y2 y3) 6 (by kernel_rfl) ?_
                have HR5 : Hid (FRow w5.drew w.heap.size (some ⟨gl, 0, none⟩) n k fs) := HR4.out.later Hb5.out.drew
                have HB5 : Hid (Below w.heap.size w w5.drew) := HB4.out.trans (Hb5.out.drew.mono hB4)
                have HO6 : Hid (FRow w5.drew w4.heap.size a5 (0 + (n - t)) c5 ([] ++ fs.drop t)) := HO5.out
                have hs6 : w4.heap.size ≤ w5.drew.heap.size := hs5
                have r0 : w5.drew.cell? ⟨X, 0, none⟩ = some (.int .i64 y1) := (keepB Hb5.out.drew p0)
                have r1 : w5.drew.cell? ⟨X, 1, none⟩ = some (.int .i64 y2) := (keepB Hb5.out.drew p1)
                have r2 : w5.drew.cell? ⟨X, 2, none⟩ = some (.int .i64 y3) := (keepB Hb5.out.drew p2)
                have HG4 : Hid (∀ g0, ((some ⟨gl, 0, none⟩) : Option Addr) = some ⟨g0, 0, none⟩ → g0 < w4.heap.size) := row_lt HR4.out
                clear HO5 Hb5 hs5 p0 p1 p2 HR4 HB4
                generalize w5.drew = v5 at *
                have hHeld : (At3 X y1 y2 y3) _ := ⟨r0, r1, r2⟩
                have hne : Nonempty (Sub (At3 X y1 y2 y3)) := ⟨⟨_, hHeld⟩⟩
                have m0 : ∀ s : Sub (At3 X y1 y2 y3), s.w.cell? ⟨X, 0, none⟩ = some (.int .i64 y1) := fun s => s.ok.1
                have m1 : ∀ s : Sub (At3 X y1 y2 y3), s.w.cell? ⟨X, 1, none⟩ = some (.int .i64 y2) := fun s => s.ok.2.1
                have m2 : ∀ s : Sub (At3 X y1 y2 y3), s.w.cell? ⟨X, 2, none⟩ = some (.int .i64 y3) := fun s => s.ok.2.2
                refine take_L (i := 0) rfl (by kernel_rfl) (by kernel_rfl) (by kernel_rfl) (by kernel_rfl) (fun _ _ _ _ h => h) (by exact hHeld) (fun K hK => ?_)
                go_simp
                refine hK _ ?_
                clear hK K
                refine take_L (i := 1) rfl (by kernel_rfl) (by kernel_rfl) (by kernel_rfl) (by kernel_rfl) (fun _ _ _ _ h => h) (by exact hHeld) (fun K hK => ?_)
                go_simp
                refine hK _ ?_
                clear hK K
                refine take_L (i := 2) rfl (by kernel_rfl) (by kernel_rfl) (by kernel_rfl) (by kernel_rfl) (fun _ _ _ _ h => h) (by exact hHeld) (fun K hK => ?_)
                go_simp
                refine hK _ ?_
                clear hK K
                refine take_L (i := 3) rfl (by kernel_rfl) (by kernel_rfl) (by kernel_rfl) (by kernel_rfl) (fun _ _ _ _ h => h) (by exact hHeld) (fun K hK => ?_)
                go_simp
                refine hK _ ?_
                clear hK K
                refine one_L (i := 4) (by kernel_rfl) rfl (fun K hK => ?_)
                go_simp
                have hw6 := alloc_new3 v5 y1 y2 y3
                have Hb6 : Hid (Below v5.heap.size v5 (v5.alloc (.cells #[.int .i64 y1, .int .i64 y2, .int .i64 y3] 38))) := (Below.refl _ _).alloc (Nat.le_refl _) _
                have hs7 : v5.heap.size < (v5.alloc (.cells #[.int .i64 y1, .int .i64 y2, .int .i64 y3] 38)).heap.size := by rw [World.size_alloc]; omega
                generalize v5.alloc (.cells #[.int .i64 y1, .int .i64 y2, .int .i64 y3] 38) = w6 at *
                replace hHeld : (At3 X y1 y2 y3) _ := ⟨keepB Hb6.out hHeld.1, keepB Hb6.out hHeld.2.1, keepB Hb6.out hHeld.2.2⟩
                refine hK.out _ _ (fun _ => hHeld) ?_
                clear hK K
                refine one_L (i := 5) (by kernel_rfl) rfl (fun K hK => ?_)
                refine step_append_lies _ rfl (.tmp 57) (.tmp 59) 50 rfl w.heap.size 38 i38 _ 3 24 Try.underlying50 hi38 hz300 hz301 hz302 rfl (by decide) (.slice (some ⟨gl, 0, none⟩) t k) t (fcells (fs.take t)) rfl ((HR5.out.later Hb6.out).cut (by omega)) ⟨v5.heap.size, 0, none⟩ 1 1 (fcells [(y1, y2, y3)]) rfl rfl (World.news_of_block hw6) (fcells_one _) (by omega) (by unfold maxLen; omega) (by omega) (by omega) _ rfl ?_
                intro gb cap w7 hown7 hgr7 hat7 hlt7
                have HO7 : Hid (FRow w7 w.heap.size (some ⟨gb, 0, none⟩) (t + 1) cap (fs.take t ++ [(y1, y2, y3)])) := by show FRow _ _ _ _ _ _; unfold FRow; rw [fcells_append]; exact hown7
                have HB7 : Hid (Below w.heap.size w w7) := (HB5.out.trans (Hb6.out.mono (by omega))).grown hgr7 (by omega) (fun g0 hg0 => (((HR5.out.later Hb6.out).cut (k := t) (by omega)).lt g0 hg0).1)
                have hB7 : w.heap.size ≤ w7.heap.size := by have := hgr7.size; omega
                have HO8 : Hid (FRow w7 w4.heap.size a5 (n - t) c5 (fs.drop t)) := rest_kept HO6.out Hb6.out hgr7 HG4.out
                have HS7 : Hid (At3 X y1 y2 y3 w6 → At3 X y1 y2 y3 w7) := fun h => at3_kept h hgr7 HX.out
                clear hown7 hgr7 hat7
                replace hHeld : (At3 X y1 y2 y3) _ := HS7.out hHeld
                refine hK.out _ _ (fun _ => hHeld) ?_
                clear hK K
                refine one_L (i := 6) (by kernel_rfl) rfl (fun K hK => ?_)
                go_simp
                refine hK.out _ _ (fun h => absurd rfl h) ?_
                clear hK K
                refine done_L (by kernel_rfl) ?_ _
                have Hl8 := HO8.out.fls
                have Hn8 : Hid (a5 = none → n - t = 0 ∧ c5 = 0) := rest_nil HO8.out
                have Hs8 : Hid (∀ p, a5 = some p → ∃ b o, p = ⟨b, o, none⟩) := rest_sp HO8.out
                clear HS7 hHeld hne m0 m1 m2 r0 r1 r2 HR5 HB5 HO6 HG4 Hb6 hw6
                go_wp2_with (at_builtin; refine wpList_append_fls rfl (.tmp 61) (.tmp 62) rfl w.heap.size (some ⟨gb, 0, none⟩) (t + 1) cap _ rfl HO7.out a5 (n - t) c5 (fs.drop t) rfl Hl8 Hn8.out Hs8.out (by omega) w HB7.out hB7 ?_; intro a9 c9 w9 HO9 hb9 hs9)
                go_roundw
                case rel => exact ⟨j + 1, t + 1 + (n - t), c9, a9, _, rfl, by go_num, by omega, by omega, by show _ = _; rw [HA2.out]; simp, HO9, hb9⟩
                case measure => simp [intOf]; omega
            · have q1' : (v1 == y1) = false := by simp [q1]
              go_big_quiet (fail)
              have HR4 : Hid (FRow (w3.drewN nq) w.heap.size (some ⟨gl, 0, none⟩) n k fs) := HR3.out
              have HB4 : Hid (Below w.heap.size w (w3.drewN nq)) := ⟨HB3.out.os, HB3.out.tape, HB3.out.output, HB3.out.size, HB3.out.block⟩
              have p0 : (w3.drewN nq).cell? ⟨X, 0, none⟩ = some (.int .i64 y1) := z0'
              have p1 : (w3.drewN nq).cell? ⟨X, 1, none⟩ = some (.int .i64 y2) := z1'
              have p2 : (w3.drewN nq).cell? ⟨X, 2, none⟩ = some (.int .i64 y3) := z2'
              have hB4 : w.heap.size ≤ (w3.drewN nq).heap.size := HB3.out.size
              have HA2 : Hid (filesTo S.l (j + 1) = fs.take t ++ (y1, y2, y3) :: fs.drop t) := HF.out.trans (HA.out.trans (if_neg (fun h => q1 (by cases h; rfl))))
              clear HR3 HB3 z0' z1' z2' HA HF
              generalize w3.drewN nq = w4 at *
              have hform : ((some ⟨gl, 0, none⟩) : Option Addr) = none ∨ ∃ b, ((some ⟨gl, 0, none⟩) : Option Addr) = some ⟨b, 0, none⟩ := Or.inr ⟨gl, rfl⟩
              have hnk := HR4.out.form
              obtain ⟨A, hsl, hA⟩ := slice_from50 (some ⟨gl, 0, none⟩) n k t hform (by omega)
              have hst := slice_to50 (some ⟨gl, 0, none⟩) n k t hform (by have := row_cap HR4.out; omega)
              have HX4 : Hid (Fls w4 A (n - t) (fs.drop t)) := drop_fls HR4.out (by omega) hA
              have Hnil : Hid (A = none → n - t = 0 ∧ k - t = 0) := drop_nil HR4.out hA
              have Hsp : Hid (∀ p, A = some p → ∃ b o, p = ⟨b, o, none⟩) := drop_sp hA
              clear hform hnk hA
              go_upto_region 11 with (at_builtin; refine wpList_append_fls rfl (.const (.slice none 0 0)) (.tmp 53) rfl w4.heap.size none 0 0 [] rfl (FRow.nil _ _) A (n - t) (k - t) (fs.drop t) rfl HX4.out Hnil.out Hsp.out (by omega) w4 (Below.refl _ _) (Nat.le_refl _) ?_; intro a5 c5 w5 HO5 hb5 hs5)
              have Hb5 : Hid (Below w4.heap.size w4 w5) := hb5
              clear hb5 HX4 Hnil Hsp hsl
              refine region_L (At3 X y1 y2 y3) 6 (by kernel_rfl) ?_
              have HR5 : Hid (FRow w5.drew w.heap.size (some ⟨gl, 0, none⟩) n k fs) := HR4.out.later Hb5.out.drew
              have HB5 : Hid (Below w.heap.size w w5.drew) := HB4.out.trans (Hb5.out.drew.mono hB4)
              have HO6 : Hid (FRow w5.drew w4.heap.size a5 (0 + (n - t)) c5 ([] ++ fs.drop t)) := HO5.out
              have hs6 : w4.heap.size ≤ w5.drew.heap.size := hs5
              have r0 : w5.drew.cell? ⟨X, 0, none⟩ = some (.int .i64 y1) := (keepB Hb5.out.drew p0)
              have r1 : w5.drew.cell? ⟨X, 1, none⟩ = some (.int .i64 y2) := (keepB Hb5.out.drew p1)
              have r2 : w5.drew.cell? ⟨X, 2, none⟩ = some (.int .i64 y3) := (keepB Hb5.out.drew p2)
              have HG4 : Hid (∀ g0, ((some ⟨gl, 0, none⟩) : Option Addr) = some ⟨g0, 0, none⟩ → g0 < w4.heap.size) := row_lt HR4.out
              clear HO5 Hb5 hs5 p0 p1 p2 HR4 HB4
              generalize w5.drew = v5 at *
              have hHeld : (At3 X y1 y2 y3) _ := ⟨r0, r1, r2⟩
              have hne : Nonempty (Sub (At3 X y1 y2 y3)) := ⟨⟨_, hHeld⟩⟩
              have m0 : ∀ s : Sub (At3 X y1 y2 y3), s.w.cell? ⟨X, 0, none⟩ = some (.int .i64 y1) := fun s => s.ok.1
              have m1 : ∀ s : Sub (At3 X y1 y2 y3), s.w.cell? ⟨X, 1, none⟩ = some (.int .i64 y2) := fun s => s.ok.2.1
              have m2 : ∀ s : Sub (At3 X y1 y2 y3), s.w.cell? ⟨X, 2, none⟩ = some (.int .i64 y3) := fun s => s.ok.2.2
              refine take_L (i := 0) rfl (by kernel_rfl) (by kernel_rfl) (by kernel_rfl) (by kernel_rfl) (fun _ _ _ _ h => h) (by exact hHeld) (fun K hK => ?_)
              go_simp
              refine hK _ ?_
              clear hK K
              refine take_L (i := 1) rfl (by kernel_rfl) (by kernel_rfl) (by kernel_rfl) (by kernel_rfl) (fun _ _ _ _ h => h) (by exact hHeld) (fun K hK => ?_)
              go_simp
              refine hK _ ?_
              clear hK K
              refine take_L (i := 2) rfl (by kernel_rfl) (by kernel_rfl) (by kernel_rfl) (by kernel_rfl) (fun _ _ _ _ h => h) (by exact hHeld) (fun K hK => ?_)
              go_simp
              refine hK _ ?_
              clear hK K
              refine take_L (i := 3) rfl (by kernel_rfl) (by kernel_rfl) (by kernel_rfl) (by kernel_rfl) (fun _ _ _ _ h => h) (by exact hHeld) (fun K hK => ?_)
              go_simp
              refine hK _ ?_
              clear hK K
              refine one_L (i := 4) (by kernel_rfl) rfl (fun K hK => ?_)
              go_simp
              have hw6 := alloc_new3 v5 y1 y2 y3
              have Hb6 : Hid (Below v5.heap.size v5 (v5.alloc (.cells #[.int .i64 y1, .int .i64 y2, .int .i64 y3] 38))) := (Below.refl _ _).alloc (Nat.le_refl _) _
              have hs7 : v5.heap.size < (v5.alloc (.cells #[.int .i64 y1, .int .i64 y2, .int .i64 y3] 38)).heap.size := by rw [World.size_alloc]; omega
              generalize v5.alloc (.cells #[.int .i64 y1, .int .i64 y2, .int .i64 y3] 38) = w6 at *
              replace hHeld : (At3 X y1 y2 y3) _ := ⟨keepB Hb6.out hHeld.1, keepB Hb6.out hHeld.2.1, keepB Hb6.out hHeld.2.2⟩
              refine hK.out _ _ (fun _ => hHeld) ?_
              clear hK K
              refine one_L (i := 5) (by kernel_rfl) rfl (fun K hK => ?_)
              refine step_append_lies _ rfl (.tmp 57) (.tmp 59) 50 rfl w.heap.size 38 i38 _ 3 24 Try.underlying50 hi38 hz300 hz301 hz302 rfl (by decide) (.slice (some ⟨gl, 0, none⟩) t k) t (fcells (fs.take t)) rfl ((HR5.out.later Hb6.out).cut (by omega)) ⟨v5.heap.size, 0, none⟩ 1 1 (fcells [(y1, y2, y3)]) rfl rfl (World.news_of_block hw6) (fcells_one _) (by omega) (by unfold maxLen; omega) (by omega) (by omega) _ rfl ?_
              intro gb cap w7 hown7 hgr7 hat7 hlt7
              have HO7 : Hid (FRow w7 w.heap.size (some ⟨gb, 0, none⟩) (t + 1) cap (fs.take t ++ [(y1, y2, y3)])) := by show FRow _ _ _ _ _ _; unfold FRow; rw [fcells_append]; exact hown7
              have HB7 : Hid (Below w.heap.size w w7) := (HB5.out.trans (Hb6.out.mono (by omega))).grown hgr7 (by omega) (fun g0 hg0 => (((HR5.out.later Hb6.out).cut (k := t) (by omega)).lt g0 hg0).1)
              have hB7 : w.heap.size ≤ w7.heap.size := by have := hgr7.size; omega
              have HO8 : Hid (FRow w7 w4.heap.size a5 (n - t) c5 (fs.drop t)) := rest_kept HO6.out Hb6.out hgr7 HG4.out
              have HS7 : Hid (At3 X y1 y2 y3 w6 → At3 X y1 y2 y3 w7) := fun h => at3_kept h hgr7 HX.out
              clear hown7 hgr7 hat7
              replace hHeld : (At3 X y1 y2 y3) _ := HS7.out hHeld
              refine hK.out _ _ (fun _ => hHeld) ?_
              clear hK K
              refine one_L (i := 6) (by kernel_rfl) rfl (fun K hK => ?_)
              go_simp
              refine hK.out _ _ (fun h => absurd rfl h) ?_
              clear hK K
              refine done_L (by kernel_rfl) ?_ _
              have Hl8 := HO8.out.fls
              have Hn8 : Hid (a5 = none → n - t = 0 ∧ c5 = 0) := rest_nil HO8.out
              have Hs8 : Hid (∀ p, a5 = some p → ∃ b o, p = ⟨b, o, none⟩) := rest_sp HO8.out
              clear HS7 hHeld hne m0 m1 m2 r0 r1 r2 HR5 HB5 HO6 HG4 Hb6 hw6
              go_wp2_with (at_builtin; refine wpList_append_fls rfl (.tmp 61) (.tmp 62) rfl w.heap.size (some ⟨gb, 0, none⟩) (t + 1) cap _ rfl HO7.out a5 (n - t) c5 (fs.drop t) rfl Hl8 Hn8.out Hs8.out (by omega) w HB7.out hB7 ?_; intro a9 c9 w9 HO9 hb9 hs9)
              go_roundw
              case rel => exact ⟨j + 1, t + 1 + (n - t), c9, a9, _, rfl, by go_num, by omega, by omega, by show _ = _; rw [HA2.out]; simp, HO9, hb9⟩
              case measure => simp [intOf]; omega
        · have hlt2' : ¬ (t : Int) < n := by omega
          have HA : Hid (ins (y1, y2, y3) fs = fs.take t ++ (y1, y2, y3) :: fs.drop t) := by
            show _ = _
            rw [ins_at fs (y1, y2, y3) t (by omega) HT.out (fun h => absurd h (by omega)), List.getElem?_eq_none (by omega), if_neg (by simp)]
          clear HT HR1 HB1
          rcases HR2.out.form with ⟨rfl, hn0, hk0⟩ | ⟨gl, rfl, _, _, _⟩
          · clear hn0 hk0
            go_wp2_with fail
            go_big_quiet (fail)
            have HR3 : Hid (FRow (wr.drewN nq) w.heap.size none n k fs) := HR2.out
            have HB3 : Hid (Below w.heap.size w (wr.drewN nq)) := ⟨HB2.out.os, HB2.out.tape, HB2.out.output, HB2.out.size, HB2.out.block⟩
            have z0' : (wr.drewN nq).cell? ⟨X, 0, none⟩ = some (.int .i64 y1) := z0
            have z1' : (wr.drewN nq).cell? ⟨X, 1, none⟩ = some (.int .i64 y2) := z1
            have z2' : (wr.drewN nq).cell? ⟨X, 2, none⟩ = some (.int .i64 y3) := z2
            clear HR2 HB2 z0 z1 z2 s0 s1 s2 hne Hi
            generalize wr.drewN nq = w3 at *
            clear nq
            go_wp2_with fail
            go_big_quiet (fail)
            have HR4 : Hid (FRow (w3.drewN nq) w.heap.size none n k fs) := HR3.out
            have HB4 : Hid (Below w.heap.size w (w3.drewN nq)) := ⟨HB3.out.os, HB3.out.tape, HB3.out.output, HB3.out.size, HB3.out.block⟩
            have p0 : (w3.drewN nq).cell? ⟨X, 0, none⟩ = some (.int .i64 y1) := z0'
            have p1 : (w3.drewN nq).cell? ⟨X, 1, none⟩ = some (.int .i64 y2) := z1'
            have p2 : (w3.drewN nq).cell? ⟨X, 2, none⟩ = some (.int .i64 y3) := z2'
            have hB4 : w.heap.size ≤ (w3.drewN nq).heap.size := HB3.out.size
            have HA2 : Hid (filesTo S.l (j + 1) = fs.take t ++ (y1, y2, y3) :: fs.drop t) := HF.out.trans (HA.out)
            clear HR3 HB3 z0' z1' z2' HA HF
            generalize w3.drewN nq = w4 at *
            have hform : (none : Option Addr) = none ∨ ∃ b, (none : Option Addr) = some ⟨b, 0, none⟩ := Or.inl rfl
            have hnk := HR4.out.form
            obtain ⟨A, hsl, hA⟩ := slice_from50 none n k t hform (by omega)
            have hst := slice_to50 none n k t hform (by have := row_cap HR4.out; omega)
            have HX4 : Hid (Fls w4 A (n - t) (fs.drop t)) := drop_fls HR4.out (by omega) hA
            have Hnil : Hid (A = none → n - t = 0 ∧ k - t = 0) := drop_nil HR4.out hA
            have Hsp : Hid (∀ p, A = some p → ∃ b o, p = ⟨b, o, none⟩) := drop_sp hA
            clear hform hnk hA
            go_upto_region 11 with (at_builtin; refine wpList_append_fls rfl (.const (.slice none 0 0)) (.tmp 53) rfl w4.heap.size none 0 0 [] rfl (FRow.nil _ _) A (n - t) (k - t) (fs.drop t) rfl HX4.out Hnil.out Hsp.out (by omega) w4 (Below.refl _ _) (Nat.le_refl _) ?_; intro a5 c5 w5 HO5 hb5 hs5)
            have Hb5 : Hid (Below w4.heap.size w4 w5) := hb5
            clear hb5 HX4 Hnil Hsp hsl
            refine region_L (At3 X y1 y2 y3) 6 (by kernel_rfl) ?_
            have HR5 : Hid (FRow w5.drew w.heap.size none n k fs) := HR4.out.later Hb5.out.drew
            have HB5 : Hid (Below w.heap.size w w5.drew) := HB4.out.trans (Hb5.out.drew.mono hB4)
            have HO6 : Hid (FRow w5.drew w4.heap.size a5 (0 + (n - t)) c5 ([] ++ fs.drop t)) := HO5.out
            have hs6 : w4.heap.size ≤ w5.drew.heap.size := hs5
            have r0 : w5.drew.cell? ⟨X, 0, none⟩ = some (.int .i64 y1) := (keepB Hb5.out.drew p0)
            have r1 : w5.drew.cell? ⟨X, 1, none⟩ = some (.int .i64 y2) := (keepB Hb5.out.drew p1)
            have r2 : w5.drew.cell? ⟨X, 2, none⟩ = some (.int .i64 y3) := (keepB Hb5.out.drew p2)
            have HG4 : Hid (∀ g0, (none : Option Addr) = some ⟨g0, 0, none⟩ → g0 < w4.heap.size) := row_lt HR4.out
            clear HO5 Hb5 hs5 p0 p1 p2 HR4 HB4
            generalize w5.drew = v5 at *
            have hHeld : (At3 X y1 y2 y3) _ := ⟨r0, r1, r2⟩
            have hne : Nonempty (Sub (At3 X y1 y2 y3)) := ⟨⟨_, hHeld⟩⟩
            have m0 : ∀ s : Sub (At3 X y1 y2 y3), s.w.cell? ⟨X, 0, none⟩ = some (.int .i64 y1) := fun s => s.ok.1
            have m1 : ∀ s : Sub (At3 X y1 y2 y3), s.w.cell? ⟨X, 1, none⟩ = some (.int .i64 y2) := fun s => s.ok.2.1
            have m2 : ∀ s : Sub (At3 X y1 y2 y3), s.w.cell? ⟨X, 2, none⟩ = some (.int .i64 y3) := fun s => s.ok.2.2
            refine take_L (i := 0) rfl (by kernel_rfl) (by kernel_rfl) (by kernel_rfl) (by kernel_rfl) (fun _ _ _ _ h => h) (by exact hHeld) (fun K hK => ?_)
            go_simp
            refine hK _ ?_
            clear hK K
            refine take_L (i := 1) rfl (by kernel_rfl) (by kernel_rfl) (by kernel_rfl) (by kernel_rfl) (fun _ _ _ _ h => h) (by exact hHeld) (fun K hK => ?_)
            go_simp
            refine hK _ ?_
            clear hK K
            refine take_L (i := 2) rfl (by kernel_rfl) (by kernel_rfl) (by kernel_rfl) (by kernel_rfl) (fun _ _ _ _ h => h) (by exact hHeld) (fun K hK => ?_)
            go_simp
            refine hK _ ?_
            clear hK K
            refine take_L (i := 3) rfl (by kernel_rfl) (by kernel_rfl) (by kernel_rfl) (by kernel_rfl) (fun _ _ _ _ h => h) (by exact hHeld) (fun K hK => ?_)
            go_simp
            refine hK _ ?_
            clear hK K
            refine one_L (i := 4) (by kernel_rfl) rfl (fun K hK => ?_)
            go_simp
            have hw6 := alloc_new3 v5 y1 y2 y3
            have Hb6 : Hid (Below v5.heap.size v5 (v5.alloc (.cells #[.int .i64 y1, .int .i64 y2, .int .i64 y3] 38))) := (Below.refl _ _).alloc (Nat.le_refl _) _
            have hs7 : v5.heap.size < (v5.alloc (.cells #[.int .i64 y1, .int .i64 y2, .int .i64 y3] 38)).heap.size := by rw [World.size_alloc]; omega
            generalize v5.alloc (.cells #[.int .i64 y1, .int .i64 y2, .int .i64 y3] 38) = w6 at *
            replace hHeld : (At3 X y1 y2 y3) _ := ⟨keepB Hb6.out hHeld.1, keepB Hb6.out hHeld.2.1, keepB Hb6.out hHeld.2.2⟩
            refine hK.out _ _ (fun _ => hHeld) ?_
            clear hK K
            refine one_L (i := 5) (by kernel_rfl) rfl (fun K hK => ?_)
            refine step_append_lies _ rfl (.tmp 57) (.tmp 59) 50 rfl w.heap.size 38 i38 _ 3 24 Try.underlying50 hi38 hz300 hz301 hz302 rfl (by decide) (.slice none t k) t (fcells (fs.take t)) rfl ((HR5.out.later Hb6.out).cut (by omega)) ⟨v5.heap.size, 0, none⟩ 1 1 (fcells [(y1, y2, y3)]) rfl rfl (World.news_of_block hw6) (fcells_one _) (by omega) (by unfold maxLen; omega) (by omega) (by omega) _ rfl ?_
            intro gb cap w7 hown7 hgr7 hat7 hlt7
            have HO7 : Hid (FRow w7 w.heap.size (some ⟨gb, 0, none⟩) (t + 1) cap (fs.take t ++ [(y1, y2, y3)])) := by show FRow _ _ _ _ _ _; unfold FRow; rw [fcells_append]; exact hown7
            have HB7 : Hid (Below w.heap.size w w7) := (HB5.out.trans (Hb6.out.mono (by omega))).grown hgr7 (by omega) (fun g0 hg0 => (((HR5.out.later Hb6.out).cut (k := t) (by omega)).lt g0 hg0).1)
            have hB7 : w.heap.size ≤ w7.heap.size := by have := hgr7.size; omega
            have HO8 : Hid (FRow w7 w4.heap.size a5 (n - t) c5 (fs.drop t)) := rest_kept HO6.out Hb6.out hgr7 HG4.out
            have HS7 : Hid (At3 X y1 y2 y3 w6 → At3 X y1 y2 y3 w7) := fun h => at3_kept h hgr7 HX.out
            clear hown7 hgr7 hat7
            replace hHeld : (At3 X y1 y2 y3) _ := HS7.out hHeld
            refine hK.out _ _ (fun _ => hHeld) ?_
            clear hK K
            refine one_L (i := 6) (by kernel_rfl) rfl (fun K hK => ?_)
            go_simp
            refine hK.out _ _ (fun h => absurd rfl h) ?_
            clear hK K
            refine done_L (by kernel_rfl) ?_ _
            have Hl8 := HO8.out.fls
            have Hn8 : Hid (a5 = none → n - t = 0 ∧ c5 = 0) := rest_nil HO8.out
            have Hs8 : Hid (∀ p, a5 = some p → ∃ b o, p = ⟨b, o, none⟩) := rest_sp HO8.out
            clear HS7 hHeld hne m0 m1 m2 r0 r1 r2 HR5 HB5 HO6 HG4 Hb6 hw6
            go_wp2_with (at_builtin; refine wpList_append_fls rfl (.tmp 61) (.tmp 62) rfl w.heap.size (some ⟨gb, 0, none⟩) (t + 1) cap _ rfl HO7.out a5 (n - t) c5 (fs.drop t) rfl Hl8 Hn8.out Hs8.out (by omega) w HB7.out hB7 ?_; intro a9 c9 w9 HO9 hb9 hs9)
            go_roundw
            case rel => exact ⟨j + 1, t + 1 + (n - t), c9, a9, _, rfl, by go_num, by omega, by omega, by show _ = _; rw [HA2.out]; simp, HO9, hb9⟩
            case measure => simp [intOf]; omega
          · go_wp2_with fail
            go_big_quiet (fail)
            have HR3 : Hid (FRow (wr.drewN nq) w.heap.size (some ⟨gl, 0, none⟩) n k fs) := HR2.out
            have HB3 : Hid (Below w.heap.size w (wr.drewN nq)) := ⟨HB2.out.os, HB2.out.tape, HB2.out.output, HB2.out.size, HB2.out.block⟩
            have z0' : (wr.drewN nq).cell? ⟨X, 0, none⟩ = some (.int .i64 y1) := z0
            have z1' : (wr.drewN nq).cell? ⟨X, 1, none⟩ = some (.int .i64 y2) := z1
            have z2' : (wr.drewN nq).cell? ⟨X, 2, none⟩ = some (.int .i64 y3) := z2
            clear HR2 HB2 z0 z1 z2 s0 s1 s2 hne Hi
            generalize wr.drewN nq = w3 at *
            clear nq
            go_wp2_with fail
            go_big_quiet (fail)
            have HR4 : Hid (FRow (w3.drewN nq) w.heap.size (some ⟨gl, 0, none⟩) n k fs) := HR3.out
            have HB4 : Hid (Below w.heap.size w (w3.drewN nq)) := ⟨HB3.out.os, HB3.out.tape, HB3.out.output, HB3.out.size, HB3.out.block⟩
            have p0 : (w3.drewN nq).cell? ⟨X, 0, none⟩ = some (.int .i64 y1) := z0'
            have p1 : (w3.drewN nq).cell? ⟨X, 1, none⟩ = some (.int .i64 y2) := z1'
            have p2 : (w3.drewN nq).cell? ⟨X, 2, none⟩ = some (.int .i64 y3) := z2'
            have hB4 : w.heap.size ≤ (w3.drewN nq).heap.size := HB3.out.size
            have HA2 : Hid (filesTo S.l (j + 1) = fs.take t ++ (y1, y2, y3) :: fs.drop t) := HF.out.trans (HA.out)
            clear HR3 HB3 z0' z1' z2' HA HF
            generalize w3.drewN nq = w4 at *
            have hform : ((some ⟨gl, 0, none⟩) : Option Addr) = none ∨ ∃ b, ((some ⟨gl, 0, none⟩) : Option Addr) = some ⟨b, 0, none⟩ := Or.inr ⟨gl, rfl⟩
            have hnk := HR4.out.form
            obtain ⟨A, hsl, hA⟩ := slice_from50 (some ⟨gl, 0, none⟩) n k t hform (by omega)
            have hst := slice_to50 (some ⟨gl, 0, none⟩) n k t hform (by have := row_cap HR4.out; omega)
            have HX4 : Hid (Fls w4 A (n - t) (fs.drop t)) := drop_fls HR4.out (by omega) hA
            have Hnil : Hid (A = none → n - t = 0 ∧ k - t = 0) := drop_nil HR4.out hA
            have Hsp : Hid (∀ p, A = some p → ∃ b o, p = ⟨b, o, none⟩) := drop_sp hA
            clear hform hnk hA
            go_upto_region 11 with (at_builtin; refine wpList_append_fls rfl (.const (.slice none 0 0)) (.tmp 53) rfl w4.heap.size none 0 0 [] rfl (FRow.nil _ _) A (n - t) (k - t) (fs.drop t) rfl HX4.out Hnil.out Hsp.out (by omega) w4 (Below.refl _ _) (Nat.le_refl _) ?_; intro a5 c5 w5 HO5 hb5 hs5)
            have Hb5 : Hid (Below w4.heap.size w4 w5) := hb5
            clear hb5 HX4 Hnil Hsp hsl
            refine region_L (At3 X y1 y2 y3) 6 (by kernel_rfl) ?_
            have HR5 : Hid (FRow w5.drew w.heap.size (some ⟨gl, 0, none⟩) n k fs) := HR4.out.later Hb5.out.drew
            have HB5 : Hid (Below w.heap.size w w5.drew) := HB4.out.trans (Hb5.out.drew.mono hB4)
            have HO6 : Hid (FRow w5.drew w4.heap.size a5 (0 + (n - t)) c5 ([] ++ fs.drop t)) := HO5.out
            have hs6 : w4.heap.size ≤ w5.drew.heap.size := hs5
            have r0 : w5.drew.cell? ⟨X, 0, none⟩ = some (.int .i64 y1) := (keepB Hb5.out.drew p0)
            have r1 : w5.drew.cell? ⟨X, 1, none⟩ = some (.int .i64 y2) := (keepB Hb5.out.drew p1)
            have r2 : w5.drew.cell? ⟨X, 2, none⟩ = some (.int .i64 y3) := (keepB Hb5.out.drew p2)
            have HG4 : Hid (∀ g0, ((some ⟨gl, 0, none⟩) : Option Addr) = some ⟨g0, 0, none⟩ → g0 < w4.heap.size) := row_lt HR4.out
            clear HO5 Hb5 hs5 p0 p1 p2 HR4 HB4
            generalize w5.drew = v5 at *
            have hHeld : (At3 X y1 y2 y3) _ := ⟨r0, r1, r2⟩
            have hne : Nonempty (Sub (At3 X y1 y2 y3)) := ⟨⟨_, hHeld⟩⟩
            have m0 : ∀ s : Sub (At3 X y1 y2 y3), s.w.cell? ⟨X, 0, none⟩ = some (.int .i64 y1) := fun s => s.ok.1
            have m1 : ∀ s : Sub (At3 X y1 y2 y3), s.w.cell? ⟨X, 1, none⟩ = some (.int .i64 y2) := fun s => s.ok.2.1
            have m2 : ∀ s : Sub (At3 X y1 y2 y3), s.w.cell? ⟨X, 2, none⟩ = some (.int .i64 y3) := fun s => s.ok.2.2
            refine take_L (i := 0) rfl (by kernel_rfl) (by kernel_rfl) (by kernel_rfl) (by kernel_rfl) (fun _ _ _ _ h => h) (by exact hHeld) (fun K hK => ?_)
            go_simp
            refine hK _ ?_
            clear hK K
            refine take_L (i := 1) rfl (by kernel_rfl) (by kernel_rfl) (by kernel_rfl) (by kernel_rfl) (fun _ _ _ _ h => h) (by exact hHeld) (fun K hK => ?_)
            go_simp
            refine hK _ ?_
            clear hK K
            refine take_L (i := 2) rfl (by kernel_rfl) (by kernel_rfl) (by kernel_rfl) (by kernel_rfl) (fun _ _ _ _ h => h) (by exact hHeld) (fun K hK => ?_)
            go_simp
            refine hK _ ?_
            clear hK K
            refine take_L (i := 3) rfl (by kernel_rfl) (by kernel_rfl) (by kernel_rfl) (by kernel_rfl) (fun _ _ _ _ h => h) (by exact hHeld) (fun K hK => ?_)
            go_simp
            refine hK _ ?_
            clear hK K
            refine one_L (i := 4) (by kernel_rfl) rfl (fun K hK => ?_)
            go_simp
            have hw6 := alloc_new3 v5 y1 y2 y3
            have Hb6 : Hid (Below v5.heap.size v5 (v5.alloc (.cells #[.int .i64 y1, .int .i64 y2, .int .i64 y3] 38))) := (Below.refl _ _).alloc (Nat.le_refl _) _
            have hs7 : v5.heap.size < (v5.alloc (.cells #[.int .i64 y1, .int .i64 y2, .int .i64 y3] 38)).heap.size := by rw [World.size_alloc]; omega
            generalize v5.alloc (.cells #[.int .i64 y1, .int .i64 y2, .int .i64 y3] 38) = w6 at *
            replace hHeld : (At3 X y1 y2 y3) _ := ⟨keepB Hb6.out hHeld.1, keepB Hb6.out hHeld.2.1, keepB Hb6.out hHeld.2.2⟩
            refine hK.out _ _ (fun _ => hHeld) ?_
            clear hK K
            refine one_L (i := 5) (by kernel_rfl) rfl (fun K hK => ?_)
            refine step_append_lies _ rfl (.tmp 57) (.tmp 59) 50 rfl w.heap.size 38 i38 _ 3 24 Try.underlying50 hi38 hz300 hz301 hz302 rfl (by decide) (.slice (some ⟨gl, 0, none⟩) t k) t (fcells (fs.take t)) rfl ((HR5.out.later Hb6.out).cut (by omega)) ⟨v5.heap.size, 0, none⟩ 1 1 (fcells [(y1, y2, y3)]) rfl rfl (World.news_of_block hw6) (fcells_one _) (by omega) (by unfold maxLen; omega) (by omega) (by omega) _ rfl ?_
            intro gb cap w7 hown7 hgr7 hat7 hlt7
            have HO7 : Hid (FRow w7 w.heap.size (some ⟨gb, 0, none⟩) (t + 1) cap (fs.take t ++ [(y1, y2, y3)])) := by show FRow _ _ _ _ _ _; unfold FRow; rw [fcells_append]; exact hown7
            have HB7 : Hid (Below w.heap.size w w7) := (HB5.out.trans (Hb6.out.mono (by omega))).grown hgr7 (by omega) (fun g0 hg0 => (((HR5.out.later Hb6.out).cut (k := t) (by omega)).lt g0 hg0).1)
            have hB7 : w.heap.size ≤ w7.heap.size := by have := hgr7.size; omega
            have HO8 : Hid (FRow w7 w4.heap.size a5 (n - t) c5 (fs.drop t)) := rest_kept HO6.out Hb6.out hgr7 HG4.out
            have HS7 : Hid (At3 X y1 y2 y3 w6 → At3 X y1 y2 y3 w7) := fun h => at3_kept h hgr7 HX.out
            clear hown7 hgr7 hat7
            replace hHeld : (At3 X y1 y2 y3) _ := HS7.out hHeld
            refine hK.out _ _ (fun _ => hHeld) ?_
            clear hK K
            refine one_L (i := 6) (by kernel_rfl) rfl (fun K hK => ?_)
            go_simp
            refine hK.out _ _ (fun h => absurd rfl h) ?_
            clear hK K
            refine done_L (by kernel_rfl) ?_ _
            have Hl8 := HO8.out.fls
            have Hn8 : Hid (a5 = none → n - t = 0 ∧ c5 = 0) := rest_nil HO8.out
            have Hs8 : Hid (∀ p, a5 = some p → ∃ b o, p = ⟨b, o, none⟩) := rest_sp HO8.out
            clear HS7 hHeld hne m0 m1 m2 r0 r1 r2 HR5 HB5 HO6 HG4 Hb6 hw6
            go_wp2_with (at_builtin; refine wpList_append_fls rfl (.tmp 61) (.tmp 62) rfl w.heap.size (some ⟨gb, 0, none⟩) (t + 1) cap _ rfl HO7.out a5 (n - t) c5 (fs.drop t) rfl Hl8 Hn8.out Hs8.out (by omega) w HB7.out hB7 ?_; intro a9 c9 w9 HO9 hb9 hs9)
            go_roundw
            case rel => exact ⟨j + 1, t + 1 + (n - t), c9, a9, _, rfl, by go_num, by omega, by omega, by show _ = _; rw [HA2.out]; simp, HO9, hb9⟩
            case measure => simp [intOf]; omega
    · obtain rfl : j = N := by omega
      have hlt' : ¬ (j : Int) < j := by omega
      have R := HP.out b n k wr fs (by rw [HN.out]; exact HJ.out) HR.out.fls HB.out
      clear HP HD HDr HJ HR HB
      go_wp2
      exact R
end Go.Proofs.Ytjkeejbfipmidaa
