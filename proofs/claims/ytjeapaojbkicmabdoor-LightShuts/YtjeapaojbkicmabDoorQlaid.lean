/-
  The landed laid: the kinds of nine chunks' cells, with a rim of None about them.
-/
import Derived.Test.YtjeapaojbkicmabDoorQsky
import Derived.Test.YtjeapaojbkicmabDoorLmany
import Derived.Test.YtjeapaojbkicmabDoorLnine
set_option maxRecDepth 20000
namespace Go.Proofs.YtjeapaojbkicmabDoor
open C G Go.RowKit L Go.Shelf

/-- Nine chunks in memory. -/
structure N9 (w : World) (b : Nat) (gs : Nat → Nat) (css : List (List Int)) : Prop where
  row : ∀ i, i < 9 → w.cell? ⟨b, i, none⟩ = some (ptV (gs i))
  blk : ∀ i, i < 9 → Blk w (gs i) 51 (css.getD i [])
  len : ∀ i, i < 9 → (css.getD i []).length = 32768
  kk : ∀ i, i < 9 → Kinds (css.getD i [])
theorem N9.grown {w w' : World} {b g : Nat} {gs : Nat → Nat} {css : List (List Int)} (h : N9 w b gs css) (hg : w.grownBy w' (some g)) (hb : b ≠ g) (hn : ∀ i, i < 9 → gs i ≠ g) : N9 w' b gs css where
  row i hi := by
    have h1 := h.row i hi
    have hlt := World.block_lt_of_cell? w _ h1
    have e := hg.block b hlt (fun q => hb (by injection q))
    simp only [World.cell?] at h1 ⊢
    rw [e]
    exact h1
  blk i hi := (hg.block (gs i) (h.blk i hi).lt (fun q => hn i hi (by injection q))).trans (h.blk i hi)
  len := h.len
  kk := h.kk
theorem N9.on {w w' : World} {b : Nat} {gs : Nat → Nat} {css : List (List Int)} (h : N9 w b gs css) (hb : Below w.heap.size w w') : N9 w' b gs css :=
  ⟨fun i hi => cell_below (h.row i hi) hb, fun i hi => (h.blk i hi).below hb (h.blk i hi).lt, h.len, h.kk⟩
/-- Where sixteen cells of a chunk lie in the field. -/
def plc (n m : Nat) : Nat := (1 + m / 16) * 2500 + (1 + 16 * (n / 3) + m % 16) * 50 + 1 + 16 * (n % 3)
theorem plc_dec {n m j : Nat} (hn : n < 9) (hm : m < 2048) (hj : j < 16) : (plc n m + j) / 2500 = 1 + m / 16 ∧ (plc n m + j) / 50 % 50 = 1 + 16 * (n / 3) + m % 16 ∧ (plc n m + j) % 50 = 1 + 16 * (n % 3) + j ∧ plc n m + j < 325000 := by
  unfold plc
  have h1 : n / 3 ≤ 2 := by omega
  have h2 : n % 3 ≤ 2 := by omega
  have h3 : m / 16 ≤ 127 := by omega
  have h4 : m % 16 ≤ 15 := by omega
  obtain ⟨a, ha⟩ : ∃ a, 1 + 16 * (n / 3) + m % 16 = a := ⟨_, rfl⟩
  obtain ⟨b, hb⟩ : ∃ b, 1 + 16 * (n % 3) + j = b := ⟨_, rfl⟩
  obtain ⟨c, hc⟩ : ∃ c, 1 + m / 16 = c := ⟨_, rfl⟩
  have ha2 : a < 50 := by omega
  have hb2 : b < 50 := by omega
  have hc2 : c < 129 := by omega
  rw [ha, hc, hb]
  have e : c * 2500 + a * 50 + 1 + 16 * (n % 3) + j = (c * 50 + a) * 50 + b := by omega
  rw [e]
  clear h1 h2 h3 h4 ha hb hc e hn hm hj
  refine ⟨?_, ?_, ?_, ?_⟩
  · omega
  · rw [show ((c * 50 + a) * 50 + b) / 50 = c * 50 + a by omega]; omega
  · omega
  · omega
theorem plc_inj {n m j n' m' j' : Nat} (hn : n < 9) (hm : m < 2048) (hj : j < 16) (hn' : n' < 9) (hm' : m' < 2048) (hj' : j' < 16) (h : plc n m + j = plc n' m' + j') : n = n' ∧ m = m' ∧ j = j' := by
  obtain ⟨a1, a2, a3, _⟩ := plc_dec hn hm hj
  obtain ⟨b1, b2, b3, _⟩ := plc_dec hn' hm' hj'
  rw [h] at a1 a2 a3
  rw [a1] at b1
  rw [a2] at b2
  rw [a3] at b3
  omega
theorem plc_inn {n m j : Nat} (hn : n < 9) (hm : m < 2048) (hj : j < 16) : Inn (plc n m + j) := by
  obtain ⟨a1, a2, a3, a4⟩ := plc_dec hn hm hj
  unfold Inn
  rw [a2, a3]
  omega
/-- The chunks below n are laid, and the first m sixteens of chunk n. -/
structure LaidP (css : List (List Int)) (n m : Nat) (ks : List Int) : Prop where
  len : ks.length = 325000
  rim : ∀ p, p < 325000 → ¬ Inn p → ks.getD p 0 = 16
  kk : ∀ p, 0 ≤ ks.getD p 0 ∧ ks.getD p 0 ≤ 16
  laid : ∀ n' m' j, n' < 9 → (n' < n ∨ (n' = n ∧ m' < m)) → m' < 2048 → j < 16 → ks.getD (plc n' m' + j) 0 = (css.getD n' []).getD (16 * m' + j) 0
theorem LaidP.step {css : List (List Int)} {n m : Nat} {ks : List Int} (h : LaidP css n m ks) (hn : n < 9) (hm : m < 2048) (hk : Kinds (css.getD n [])) : LaidP css n (m + 1) (spl ks (part16 (css.getD n []) (16 * m)) (plc n m)) := by
  have hd := plc_dec (j := 15) hn hm (by omega)
  have hfit : plc n m + (part16 (css.getD n []) (16 * m)).length ≤ ks.length := by rw [part16_len, h.len]; omega
  refine ⟨(spl_len hfit).trans h.len, fun p hp hi => ?_, fun p => ?_, fun n' m' j hn' hc hm' hj => ?_⟩
  · rw [spl_at hfit, part16_len, if_neg]
    · exact h.rim p hp hi
    · intro q
      have := plc_inn hn hm (j := p - plc n m) (by omega)
      rw [show plc n m + (p - plc n m) = p by omega] at this
      exact hi this
  · rw [spl_at hfit, part16_len]
    by_cases q : plc n m ≤ p ∧ p < plc n m + 16
    · rw [if_pos q, part16_at _ _ _ (by omega)]
      exact hk.at _
    · rw [if_neg q]; exact h.kk p
  · rw [spl_at hfit, part16_len]
    by_cases q : plc n m ≤ plc n' m' + j ∧ plc n' m' + j < plc n m + 16
    · rw [if_pos q, part16_at _ _ _ (by omega)]
      obtain ⟨e1, e2, e3⟩ := plc_inj (n := n) (m := m) (j := plc n' m' + j - plc n m) (n' := n') (m' := m') (j' := j) hn hm (by omega) hn' hm' hj (by omega)
      rw [e3, ← e1, ← e2]
    · rw [if_neg q]
      refine h.laid n' m' j hn' ?_ hm' hj
      rcases hc with hc | ⟨e1, hc⟩
      · exact .inl hc
      · by_cases e2 : m' = m
        · exfalso; subst e1; subst e2; omega
        · exact .inr ⟨e1, by omega⟩
theorem LaidP.next {css : List (List Int)} {n : Nat} {ks : List Int} (h : LaidP css n 2048 ks) : LaidP css (n + 1) 0 ks :=
  ⟨h.len, h.rim, h.kk, fun n' m' j hn' hc hm' hj => h.laid n' m' j hn' (by omega) hm' hj⟩
/-- The whole field. -/
structure FieldP (css : List (List Int)) (ks : List Int) : Prop where
  len : ks.length = 325000
  rim : ∀ p, p < 325000 → ¬ Inn p → ks.getD p 0 = 16
  kk : Kinds ks
  inn : ∀ i, i < 294912 → ks.getD (pad i) 0 = kAt css i
theorem LaidP.field {css : List (List Int)} {ks : List Int} (h : LaidP css 9 0 ks) : FieldP css ks := by
  refine ⟨h.len, h.rim, ?_, fun i hi => ?_⟩
  · intro x hx
    obtain ⟨j, hj, rfl⟩ := List.getElem_of_mem hx
    have := h.kk j
    rw [List.getD_eq_getElem?_getD, List.getElem?_eq_getElem hj] at this
    exact this
  · obtain ⟨x, z, y, _, _, _, e, hx, hz⟩ := digits 48 48 i (by omega) (by omega)
    have hy : y < 128 := by omega
    rw [e, pad_of hx hz, kAt_of css hx hz]
    have := h.laid (z / 16 * 3 + x / 16) (y * 16 + z % 16) (x % 16) (by omega) (.inl (by omega)) (by omega) (by omega)
    have e1 : plc (z / 16 * 3 + x / 16) (y * 16 + z % 16) + x % 16 = (y + 1) * 2500 + (z + 1) * 50 + (x + 1) := by
      unfold plc
      have h1 : (z / 16 * 3 + x / 16) / 3 = z / 16 := by omega
      have h2 : (z / 16 * 3 + x / 16) % 3 = x / 16 := by omega
      have h3 : (y * 16 + z % 16) / 16 = y := by omega
      have h4 : (y * 16 + z % 16) % 16 = z % 16 := by omega
      rw [h1, h2, h3, h4]
      omega
    rw [e1] at this
    rw [this, show 16 * (y * 16 + z % 16) + x % 16 = y * 256 + z % 16 * 16 + x % 16 by omega]
/-- The steps from the fifth chunk. -/
theorem near9 : flatN 0 0 (nearL 1) = [.int .i64 (-1), .int .i64 (-1), .int .i64 0, .int .i64 (-1), .int .i64 1, .int .i64 (-1), .int .i64 (-1), .int .i64 0, .int .i64 0, .int .i64 0, .int .i64 1, .int .i64 0, .int .i64 (-1), .int .i64 1, .int .i64 0, .int .i64 1, .int .i64 1, .int .i64 1] := by kernel_rfl
theorem near9n : nearN 1 = 9 := by kernel_rfl
theorem near9_at (n : Nat) (hn : n < 9) : (flatN 0 0 (nearL 1))[n * 2]? = some (.int .i64 (((n % 3 : Nat) : Int) - 1)) ∧ (flatN 0 0 (nearL 1))[n * 2 + 1]? = some (.int .i64 (((n / 3 : Nat) : Int) - 1)) := by
  rw [near9]
  have h : n = 0 ∨ n = 1 ∨ n = 2 ∨ n = 3 ∨ n = 4 ∨ n = 5 ∨ n = 6 ∨ n = 7 ∨ n = 8 := by omega
  rcases h with rfl | rfl | rfl | rfl | rfl | rfl | rfl | rfl | rfl <;> exact ⟨rfl, rfl⟩
theorem grown_row {w : World} {g : Nat} (cs : Array Value) : w.grownBy (w.setRow g cs) (some g) :=
  ⟨rfl, rfl, rfl, by simp [World.setRow], fun k _ hk => setRow_other w g k cs (fun e => hk (by rw [e]))⟩
theorem grown_trans {w w1 w2 : World} {r : Option Nat} (h1 : w.grownBy w1 r) (h2 : w1.grownBy w2 r) : w.grownBy w2 r :=
  ⟨h2.os.trans h1.os, h2.tape.trans h1.tape, h2.output.trans h1.output, Nat.le_trans h1.size h2.size, fun j hj hne => (h2.block j (Nat.lt_of_lt_of_le hj h1.size) hne).trans (h1.block j hj hne)⟩
theorem below_grown {w w1 : World} (r : Option Nat) (h : Below w.heap.size w w1) : w.grownBy w1 r := ⟨h.os, h.tape, h.output, h.size, fun j hj _ => h.block j hj⟩
theorem grown_cell {w w1 : World} {g b k : Nat} {v : Value} (h : w.grownBy w1 (some g)) (hne : b ≠ g) (hv : w.cell? ⟨b, k, none⟩ = some v) : w1.cell? ⟨b, k, none⟩ = some v := by
  have hlt := World.block_lt_of_cell? w _ hv
  have e := h.block b hlt (fun q => hne (by injection q))
  simp only [World.cell?] at hv ⊢
  rw [e]
  exact hv
theorem grown_blk {w w1 : World} {g b : Nat} {t : TypeId} {cs : List Int} (h : w.grownBy w1 (some g)) (hne : b ≠ g) (hv : Blk w b t cs) : Blk w1 b t cs := (h.block b hv.lt (fun q => hne (by injection q))).trans hv
/-- Between two chunks. -/
structure LaidO (W2 : World) (gT : Nat) (css : List (List Int)) (n : Nat) (W : World) : Prop where
  blk : ∃ ks, Blk W gT 54 ks ∧ LaidP css n 0 ks
  gr : W2.grownBy W (some gT)
/-- Within a chunk. -/
structure LaidI (W2 : World) (gT gc gb : Nat) (css : List (List Int)) (n m : Nat) (W : World) : Prop where
  blk : ∃ ks, Blk W gT 54 ks ∧ LaidP css n m ks
  gr : W2.grownBy W (some gT)
  row : Blk W gb 5 (css.getD n [])
  c0 : W.cell? ⟨gc, 0, none⟩ = some (.int .i64 (((n % 3 : Nat) : Int) - 1))
  c1 : W.cell? ⟨gc, 1, none⟩ = some (.int .i64 (((n / 3 : Nat) : Int) - 1))
/-- All cells below p are None. -/
structure FillP (ks : List Int) (p : Nat) : Prop where
  len : ks.length = 325000
  at_ : ∀ i, i < p → ks.getD i 0 = 16
theorem FillP.laid {css : List (List Int)} {ks : List Int} (h : FillP ks 325000) : LaidP css 0 0 ks where
  len := h.len
  rim p hp _ := h.at_ p hp
  kk p := by
    by_cases q : p < 325000
    · rw [h.at_ p q]; omega
    · rw [List.getD_eq_getElem?_getD, List.getElem?_eq_none (by rw [h.len]; omega)]; simp
  laid n' m' j _ hc _ _ := by omega
structure LaidR (w : World) (css : List (List Int)) (g : Nat) (w' : World) : Prop where
  blk : ∃ ks, Blk w' g 54 ks ∧ FieldP css ks
  low : w.heap.size ≤ g
  bel : Below w.heap.size w w'
theorem LaidO.done {w W2 W : World} {g : Nat} {css : List (List Int)} (h : LaidO W2 g css 9 W) (hb : Below w.heap.size w W2) (hg : w.heap.size = g) : LaidR w css g W := by
  obtain ⟨⟨ks, h1, h2⟩, h3⟩ := h
  refine ⟨⟨ks, h1, h2.field⟩, Nat.le_of_eq hg, ⟨h3.os.trans hb.os, h3.tape.trans hb.tape, h3.output.trans hb.output, Nat.le_trans hb.size h3.size, fun j hj => (h3.block j (Nat.lt_of_lt_of_le hj hb.size) (fun e => ?_)).trans (hb.block j hj)⟩⟩
  injection e with e
  omega
set_option maxRecDepth 1000000 in
set_option maxHeartbeats 8000000 in
theorem laid_c (b cv : Nat) (gs : Nat → Nat) (css : List (List Int)) (w : World) (hN : N9 w b gs css) :
    Calls Tryd.prog 14 #[.slice (some ⟨b, 0, none⟩) 9 cv] w fun e w' => e = .returned (.pointer (some ⟨w.heap.size, 0, none⟩)) ∧ LaidR w css w.heap.size w' := by
  obtain ⟨Post, hPost⟩ : ∃ Post : Ending → World → Prop, Post = fun e w' => e = .returned (.pointer (some ⟨w.heap.size, 0, none⟩)) ∧ LaidR w css w.heap.size w' := ⟨_, rfl⟩
  rw [← hPost]
  have HP : Hid (∀ w', LaidR w css w.heap.size w' → Post (.returned (.pointer (some ⟨w.heap.size, 0, none⟩))) w') := fun w' h => by rw [hPost]; exact ⟨rfl, h⟩
  clear hPost
  have hzf := zero_field
  obtain ⟨Z, hZe⟩ : ∃ Z, Z = List.replicate 325000 (0 : Int) := ⟨_, rfl⟩
  have hZl : Z.length = 325000 := by rw [hZe, List.length_replicate]
  rw [← hZe] at hzf
  have hb0 : Below w.heap.size w (w.alloc (.cells (vals Z) 54)) := (Below.refl _ _).alloc (Nat.le_refl _) _
  obtain ⟨g, hg⟩ : ∃ g, w.heap.size = g := ⟨_, rfl⟩
  have H0 : Hid (SkyG w g (fun ks => FillP ks 0) (w.alloc (.cells (vals Z) 54))) := ⟨⟨Z, by rw [← hg]; exact Blk.new w 54 Z, hZl, fun i hi => absurd hi (Nat.not_lt_zero _)⟩, hb0⟩
  have HN : Hid (N9 w b gs css ∧ w.heap.size = g) := ⟨hN, hg⟩
  clear hZe hZl hb0 hN
  rw [hg] at HP
  go_enter Tryd.func14, Tryd.ntmps14
  go_wp2
  clear hg
  generalize w.alloc (.cells (vals Z) 54) = w1 at *
  clear hzf
  go_loopw [9] (fun vx wr => ∃ p : Nat, p ≤ 325000 ∧ vx = .int .i64 (p : Int) ∧ Hid (SkyG w g (fun ks => FillP ks p) wr)) (fun vx _ => 325000 - (intOf vx).toNat)
  case atStart => exact ⟨0, by omega, rfl, H0⟩
  case round =>
    clear H0
    obtain ⟨p, hp, rfl, HS⟩ := hrel
    by_cases hlt : p < 325000
    case pos =>
      have hlt' : (p : Int) < 325000 := by omega
      have wp1 : IntKind.i64.wrap ((p : Int) + 1) = ((p + 1 : Nat) : Int) := by rw [IntKind.wrap_i64]; omega
      obtain ⟨⟨ks, h1, h2⟩, h3⟩ := HS.out
      have ct := h1.cell (k := p) (by rw [h2.len]; exact hlt)
      have fz := h1.free p
      have HE : Hid (SkyG w g (fun ks => FillP ks (p + 1)) (wr.setCell ⟨g, p, none⟩ (.int .u8 16))) := by
        refine ⟨⟨_, h1.set p 16, by rw [List.length_set]; exact h2.len, fun i hi => ?_⟩, h3.trans ⟨rfl, rfl, rfl, by simp [World.setCell], fun j hj => Below.heap_setCell wr ⟨g, p, none⟩ _ j (by show j ≠ g; have := HN.out.2; omega)⟩⟩
        by_cases q : i = p
        · subst q; rw [C.getD_set_self ks i _ (by rw [h2.len]; exact hlt)]
        · rw [C.getD_set_ne ks _ (fun e => q e.symm)]; exact h2.at_ i (by omega)
      generalize ks.getD p 0 = v0 at ct
      clear h1 h2 h3 HS HN HP hlt
      go_wp2
      exact ⟨⟨p + 1, by omega, by simp, HE⟩, by simp [intOf]; omega⟩
    have hlt' : ¬ (p : Int) < 325000 := by omega
    have HS0 : Hid (SkyG w g (fun ks => FillP ks 325000) wr) := by
      obtain rfl : p = 325000 := by omega
      exact HS.out
    clear HS hlt
    have hnear := near_c 0 0 1 (by omega) (by omega) wr
    rw [near9n] at hnear
    obtain ⟨wq, hwq⟩ : ∃ wq, wq = wr := ⟨_, rfl⟩
    subst hwq
    go_wp2_with fail
    refine hnear.mono ?_
    clear hnear
    rintro _ w2 ⟨v, rfl, hrow, hb2⟩
    obtain ⟨g2, c2, rfl⟩ : ∃ g2 c2, v = .slice (some ⟨g2, 0, none⟩) 9 c2 := by
      rcases hrow.2 with ⟨_, h1⟩ | ⟨g', cap, cur, hv, _⟩
      · omega
      · exact ⟨g', cap, hv⟩
    have HX : Hid (∀ n, n < 9 → w2.cell? ⟨g2, n * 2, none⟩ = some (.int .i64 (((n % 3 : Nat) : Int) - 1)) ∧ w2.cell? ⟨g2, n * 2 + 1, none⟩ = some (.int .i64 (((n / 3 : Nat) : Int) - 1))) := fun n hn => by
      rw [ownsRow_cell hrow (n * 2) (by omega), ownsRow_cell hrow (n * 2 + 1) (by omega)]
      exact near9_at n hn
    have HR : Hid (g2 ≠ g ∧ N9 w2 b gs css ∧ b ≠ g ∧ (∀ i, i < 9 → gs i ≠ g) ∧ g < w2.heap.size ∧ Below w.heap.size w w2) := by
      obtain ⟨⟨ks, h1, h2⟩, h3⟩ := HS0.out
      have hgl := h1.lt
      obtain ⟨n1, n2⟩ := HN.out
      have hbel : Below w.heap.size w w2 := h3.trans (hb2.mono h3.size)
      have hbl := World.block_lt_of_cell? w _ (n1.row 0 (by omega))
      refine ⟨fun e => ?_, n1.on hbel, fun e => ?_, fun i hi e => ?_, Nat.lt_of_lt_of_le hgl hb2.size, hbel⟩
      · have h9 := (HX.out 0 (by omega)).1
        have hbk : w2.heap[g]? = some (.cells (vals ks) 54 (0, 0)) := h1.below hb2 hgl
        rw [e, cell_of_row w2 g _ _ 54 (0, 0) hbk] at h9
        unfold vals at h9
        rw [List.getElem?_toArray, List.getElem?_map] at h9
        cases hq : ks[0 * 2]? with
        | none => rw [hq] at h9; cases h9
        | some x => rw [hq] at h9; cases h9
      · have h9 : b < w.heap.size := hbl
        omega
      · have := (n1.blk i hi).lt
        omega
    have HG : Hid (w.heap.size = g) := HN.out.2
    have H1 : Hid (LaidO w2 g css 0 w2) := by
      obtain ⟨⟨ks, h1, h2⟩, h3⟩ := HS0.out
      exact ⟨⟨ks, h1.below hb2 h1.lt, h2.laid⟩, below_grown _ (Below.refl _ _)⟩
    clear HS0 hrow hb2 HN
    go_wp2
    go_loopw [18] (fun vx wr => ∃ n : Nat, n ≤ 9 ∧ vx = .int .i64 (n : Int) ∧ Hid (LaidO w2 g css n wr)) (fun vx _ => 9 - (intOf vx).toNat)
    case atStart => exact ⟨0, by omega, rfl, H1⟩
    case round =>
      clear H1
      obtain ⟨n, hn, rfl, HS⟩ := hrel
      by_cases hlt : n < 9
      case neg =>
        have hlt' : ¬ (n : Int) < 9 := by omega
        have R := HP.out wr (by
          obtain rfl : n = 9 := by omega
          obtain ⟨r1, r2, r3, r4, r5, r6⟩ := HR.out
          exact HS.out.done r6 HG.out)
        clear HS HP HR HX HG
        go_wp2
        first | exact R | (go_ret; exact R)
      have hlt' : (n : Int) < 9 := by omega
      have wn1 : IntKind.i64.wrap ((n : Int) + 1) = ((n + 1 : Nat) : Int) := by rw [IntKind.wrap_i64]; omega
      clear HP
      obtain ⟨r1, r2, r3, r4, r5, r6⟩ := HR.out
      have hgr := HS.out.gr
      have x0 := grown_cell hgr r1 (HX.out n hlt).1
      have x1 := grown_cell hgr r1 (HX.out n hlt).2
      have hNr := r2.grown hgr r3 r4
      have y0 := hNr.row n hlt
      have hbk := hNr.blk n hlt
      have hlen := hNr.len n hlt
      obtain ⟨X, hX⟩ : ∃ X, ((n % 3 : Nat) : Int) - 1 = X := ⟨_, rfl⟩
      obtain ⟨Zc, hZc⟩ : ∃ Zc, ((n / 3 : Nat) : Int) - 1 = Zc := ⟨_, rfl⟩
      have HXZ : Hid (((n % 3 : Nat) : Int) - 1 = X ∧ ((n / 3 : Nat) : Int) - 1 = Zc ∧ n < 9) := ⟨hX, hZc, hlt⟩
      rw [hX] at x0
      rw [hZc] at x1
      have Hlt : Hid (n < 9) := hlt
      clear hX hZc r1 r2 r3 r4 r5 r6 hNr hlt
      obtain ⟨gp, hgp⟩ : ∃ gp, gs n = gp := ⟨_, rfl⟩
      rw [hgp] at hbk
      have y0' : wr.cell? ⟨b, n, none⟩ = some (.pointer (some ⟨gp, 0, none⟩)) := by rw [y0]; unfold ptV; rw [hgp]
      clear y0 hgp
      obtain ⟨wq2, hwq2⟩ : ∃ wq2, wq2 = wr := ⟨_, rfl⟩
      subst hwq2
      go_upto_region 10 with fail
      obtain ⟨w3, hw3⟩ : ∃ w3, w3 = wq2.alloc (.cells #[.int .i64 X, .int .i64 Zc] 58) := ⟨_, rfl⟩
      rw [← hw3]
      obtain ⟨gc, hgc⟩ : ∃ gc, wq2.heap.size = gc := ⟨_, rfl⟩
      rw [hgc]
      have hb3 : Below wq2.heap.size wq2 w3 := by rw [hw3]; exact (Below.refl _ _).alloc (Nat.le_refl _) _
      have hc3 : w3.heap[gc]? = some (.cells #[.int .i64 X, .int .i64 Zc] 58 (0, 0)) := by rw [hw3, ← hgc]; exact heap_alloc_new _ _
      have z0 : w3.cell? ⟨gc, 0, none⟩ = some (.int .i64 X) := (cell_of_row w3 gc 0 _ 58 (0, 0) hc3).trans rfl
      have z1 : w3.cell? ⟨gc, 1, none⟩ = some (.int .i64 Zc) := (cell_of_row w3 gc 1 _ 58 (0, 0) hc3).trans rfl
      have y3 := cell_below y0' hb3
      have hbk3 := hbk.below hb3 hbk.lt
      have Hc3 : Hid (wq2.heap.size = gc ∧ Below wq2.heap.size wq2 w3 ∧ w3.cell? ⟨gc, 0, none⟩ = some (.int .i64 X) ∧ w3.cell? ⟨gc, 1, none⟩ = some (.int .i64 Zc) ∧ gc < w3.heap.size) := ⟨hgc, hb3, z0, z1, (Array.getElem?_eq_some_iff.1 hc3).1⟩
      have hby := bytes_c gp (css.getD n []) w3 hbk3 hlen
      clear hw3 hgc hb3 hc3 z0 z1 y0' hbk hbk3 x0 x1 hgr
      go_wp2_with fail
      refine hby.mono ?_
      clear hby y3
      rintro _ w4 ⟨rfl, hbb, hb4⟩
      obtain ⟨gb, hgb⟩ : ∃ gb, w3.heap.size = gb := ⟨_, rfl⟩
      rw [hgb] at hbb
      have H2 : Hid (LaidI w2 g gc gb css n 0 w4 ∧ gc ≠ g ∧ gb ≠ g ∧ w2.heap.size ≤ w4.heap.size) := by
        obtain ⟨q1, q2, q3, q4, q5⟩ := Hc3.out
        obtain ⟨⟨ks, h1, h2⟩, h3⟩ := HS.out
        have hg1 := h1.lt
        have hb24 : Below wq2.heap.size wq2 w4 := q2.trans (hb4.mono q2.size)
        refine ⟨⟨⟨ks, h1.below hb24 h1.lt, h2⟩, grown_trans h3 (below_grown _ hb24), hbb, ?_, ?_⟩, by omega, by have := q2.size; omega, Nat.le_trans h3.size hb24.size⟩
        · rw [HXZ.out.1]; exact cell_below q3 hb4
        · rw [HXZ.out.2.1]; exact cell_below q4 hb4
      clear HS Hc3 hbb hb4
      go_wp2
      clear hgb
      have Hn2 : Hid ((∀ j, j < 9 → Kinds (css.getD j [])) ∧ (css.getD n []).length = 32768) := ⟨HR.out.2.1.kk, hlen⟩
      clear hlen
      go_loopw [8] (fun vx wr => ∃ m : Nat, m ≤ 2048 ∧ vx = .int .i64 ((16 * m : Nat) : Int) ∧ Hid (LaidI w2 g gc gb css n m wr)) (fun vx _ => 32768 - (intOf vx).toNat)
      case atStart => exact ⟨0, by omega, rfl, H2.out.1⟩
      case round =>
        obtain ⟨m, hm, rfl, HS⟩ := hrel
        by_cases hlt : m < 2048
        case neg =>
          have HE : Hid (LaidO w2 g css (n + 1) wr) := by
            obtain rfl : m = 2048 := by omega
            obtain ⟨⟨ks, h1, h2⟩, h3, _, _, _⟩ := HS.out
            exact ⟨⟨ks, h1, h2.next⟩, h3⟩
          obtain rfl : m = 2048 := by omega
          have hn9 := Hlt.out
          clear HS H2 Hn2 HR HX HG HXZ Hlt
          go_wp2
          exact ⟨⟨n + 1, by omega, by simp, HE⟩, by simp [intOf]; omega⟩
        obtain ⟨I, hI⟩ : ∃ I, 16 * m = I := ⟨_, rfl⟩
        have hIb : I + 16 ≤ 32768 := by omega
        have HI : Hid (16 * m = I ∧ m < 2048 ∧ n < 9) := ⟨hI, hlt, Hlt.out⟩
        rw [hI]
        have hlt' : (I : Int) < 32768 := by omega
        have wI : IntKind.i64.wrap ((I : Int) + 16) = ((I + 16 : Nat) : Int) := by rw [IntKind.wrap_i64]; omega
        have hl' : (I : Int) ≤ (I : Int) + 16 := by omega
        have hl2 : (I : Int) + 16 ≤ 32768 := by omega
        have hI3 : ¬ 32768 = I := by omega
        clear hI hlt hm
        obtain ⟨P, hP⟩ : ∃ P, plc n m = P := ⟨_, rfl⟩
        have hd := plc_dec (n := n) (m := m) (j := 15) HI.out.2.2 HI.out.2.1 (by omega)
        rw [hP] at hd
        have hpb : P + 16 ≤ 325000 := by omega
        have hpb' : (P : Int) ≤ 325000 := by omega
        have hp3 : ¬ 325000 = P := by omega
        have Hp : Hid (plc n m = P) := hP
        clear hP hd
        have z0 := HS.out.c0
        have z1 := HS.out.c1
        rw [HXZ.out.1] at z0
        rw [HXZ.out.2.1] at z1
        go_upto_region 14 with fail
        refine region_L (fun W => Below wr.heap.size wr W) 10 (by kernel_rfl) ?_
        have hHeld : Below wr.heap.size wr wr.drew := (Below.refl _ wr).drew
        obtain ⟨wx, hwx⟩ : ∃ wx, wr.drew = wx := ⟨_, rfl⟩
        rw [hwx] at hHeld ⊢
        clear hwx
        have hne : Nonempty (Sub (fun W => Below wr.heap.size wr W)) := ⟨⟨_, hHeld⟩⟩
        have k0 : ∀ s : Sub (fun W => Below wr.heap.size wr W), s.w.cell? ⟨gc, 0, none⟩ = some (.int .i64 X) := fun s => cell_below z0 s.ok
        have k1 : ∀ s : Sub (fun W => Below wr.heap.size wr W), s.w.cell? ⟨gc, 1, none⟩ = some (.int .i64 Zc) := fun s => cell_below z1 s.ok
        refine take_LC (i := 0) [3, 2] rfl (by kernel_rfl) (by kernel_rfl) (by kernel_rfl) (by kernel_rfl) (by kernel_rfl) (fun _ _ _ _ h => h) (by exact hHeld) (fun K hK => ?_)
        go_simp
        refine hK _ ?_
        clear hK K
        refine take_LC (i := 1) [3, 2] rfl (by kernel_rfl) (by kernel_rfl) (by kernel_rfl) (by kernel_rfl) (by kernel_rfl) (fun _ _ _ _ h => h) (by exact hHeld) (fun K hK => ?_)
        go_simp
        refine hK _ ?_
        clear hK K
        refine take_LC (i := 5) [9] rfl (by kernel_rfl) (by kernel_rfl) (by kernel_rfl) (by kernel_rfl) (by kernel_rfl) (fun _ _ _ _ h => h) (by exact hHeld) (fun K hK => ?_)
        go_simp
        refine hK _ ?_
        clear hK K
        refine take_LC (i := 6) [9] rfl (by kernel_rfl) (by kernel_rfl) (by kernel_rfl) (by kernel_rfl) (by kernel_rfl) (fun _ _ _ _ h => h) (by exact hHeld) (fun K hK => ?_)
        go_simp
        refine hK _ ?_
        clear hK K
        refine take_LC (i := 7) [9, 8] rfl (by kernel_rfl) (by kernel_rfl) (by kernel_rfl) (by kernel_rfl) (by kernel_rfl) (fun _ _ _ _ h => h) (by exact hHeld) (fun K hK => ?_)
        go_simp
        refine hK _ ?_
        clear hK K
        refine take_LC (i := 8) [9] rfl (by kernel_rfl) (by kernel_rfl) (by kernel_rfl) (by kernel_rfl) (by kernel_rfl) (fun _ _ _ _ h => h) (by exact hHeld) (fun K hK => ?_)
        go_simp
        refine hK _ ?_
        clear hK K
        refine take_L (i := 9) rfl (by kernel_rfl) (by kernel_rfl) (by kernel_rfl) (by kernel_rfl) (fun _ _ _ _ h => h) (by exact hHeld) (fun K hK => ?_)
        go_simp
        refine hK _ ?_
        clear hK K
        clear k0 k1 z0 z1
        have e0 : cellX X (I : Int) = X * 16 := by
          have := HI.out
          have := HXZ.out
          unfold cellX wrap64
          rw [if_pos (by omega)]
          omega
        have e1 : cellY (I : Int) = ((m / 16 : Nat) : Int) := by
          have := HI.out
          unfold cellY
          rw [if_pos (by omega)]
          omega
        have e2 : cellZ Zc (I : Int) = Zc * 16 + ((m % 16 : Nat) : Int) := by
          have := HI.out
          have := HXZ.out
          unfold cellZ wrap64
          rw [if_pos (by omega)]
          omega
        have hcell := cell_c X Zc (I : Int) wx
        rw [e0, e1, e2] at hcell
        have hplace := fun (W : World) => place_c (X * 16) ((m / 16 : Nat) : Int) (Zc * 16 + ((m % 16 : Nat) : Int)) P (by have := HXZ.out; omega) (by have := HI.out; omega) (by have := HXZ.out; omega) (by have h1 := Hp.out; unfold plc at h1; have := HXZ.out; omega) W
        clear e0 e1 e2
        generalize X * 16 = X16 at hcell hplace
        generalize ((m / 16 : Nat) : Int) = Y at hcell hplace
        generalize Zc * 16 + ((m % 16 : Nat) : Int) = Z16 at hcell hplace
        refine one_L (i := 2) (by kernel_rfl) rfl (fun K hK => ?_)
        go_simp
        refine hcell.mono ?_
        clear hcell
        rintro _ w5 ⟨rfl, hb5⟩
        replace hHeld : Below wr.heap.size wr w5 := hHeld.trans (hb5.mono hHeld.size)
        refine hK.out _ _ (fun _ => hHeld) ?_
        clear hK K hb5
        refine one_L (i := 3) (by kernel_rfl) rfl (fun K hK => ?_)
        go_simp
        refine (hplace w5).mono ?_
        clear hplace
        rintro _ w6 ⟨rfl, hb6⟩
        replace hHeld : Below wr.heap.size wr w6 := hHeld.trans (hb6.mono hHeld.size)
        refine hK.out _ _ (fun _ => hHeld) ?_
        clear hK K hb6
        refine take_L (i := 4) rfl (by kernel_rfl) (by kernel_rfl) (by kernel_rfl) (by kernel_rfl) (fun _ _ _ _ h => h) (by exact hHeld) (fun K hK => ?_)
        go_simp
        refine hK _ ?_
        clear hK K
        clear hne
        obtain ⟨⟨ks, h1, h2⟩, h3, h4, h5, h6⟩ := HS.out
        have h1' : Blk w6 g 54 ks := h1.below hHeld h1.lt
        have h4' : Blk w6 gb 5 (css.getD n []) := h4.below hHeld h4.lt
        have hsrc := part16_src h4' (off := I) (by rw [Hn2.out.2]; omega)
        have h1q : w6.heap[g]? = some (.cells (vals ks) 54 (0, 0)) := h1'
        have e9 : ((I : Int) + 16).toNat - I = 16 := by omega
        have HE : Hid (LaidI w2 g gc gb css n (m + 1) (w6.setRow g ((vals ks).toList.take P ++ ((part16 (css.getD n []) I).map (Value.int .u8) ++ (vals ks).toList.drop (P + ((part16 (css.getD n []) I).map (Value.int .u8)).length))).toArray)) := by
          have hI := HI.out
          have hgr := below_grown (some g) hHeld
          have hrow := grown_row (w := w6) (g := g) ((vals ks).toList.take P ++ ((part16 (css.getD n []) I).map (Value.int .u8) ++ (vals ks).toList.drop (P + ((part16 (css.getD n []) I).map (Value.int .u8)).length))).toArray
          have hst := h2.step hI.2.2 hI.2.1 (Hn2.out.1 n hI.2.2)
          rw [hI.1, Hp.out] at hst
          refine ⟨⟨_, ?_, hst⟩, grown_trans h3 (grown_trans hgr hrow), grown_blk (grown_trans hgr hrow) H2.out.2.2.1 h4, grown_cell (grown_trans hgr hrow) H2.out.2.1 h5, grown_cell (grown_trans hgr hrow) H2.out.2.1 h6⟩
          have hs := spl_vals ks (part16 (css.getD n []) I) P
          unfold splice at hs
          have hset := setRow_heap w6 g _ ((vals ks).toList.take P ++ ((part16 (css.getD n []) I).map (Value.int .u8) ++ (vals ks).toList.drop (P + ((part16 (css.getD n []) I).map (Value.int .u8)).length))).toArray 54 _ h1q
          rw [hs] at hset ⊢
          exact hset
        refine one_W (i := 10) (by kernel_rfl) rfl (fun K hK => ?_)
        refine wpList_copy_own rfl (.tmp 36) (.tmp 41) 28 28 rfl 5 Tryd.underlying28 info5 g P _ _ ⟨gb, I, none⟩ _ _ rfl rfl (vals ks) 54 h1q ((part16 (css.getD n []) I).map (Value.int .u8)) (by rw [List.length_map, part16_len, e9]; exact (Nat.min_eq_left (by omega)).symm) hsrc (by rw [List.length_map, part16_len, vals_size, h2.len]; omega) (one_u8 _) ?_
        refine hK.out _ _ (fun h => absurd rfl h) ?_
        clear hK K h1 h2 h3 h4 h5 h6 h1' h4' hsrc h1q e9 HS H2 Hn2 HR HX HG HXZ Hlt hHeld Hp
        refine done_L (by kernel_rfl) ?_ _
        go_wp2
        obtain ⟨hI1, hI2⟩ := HI.out
        exact ⟨⟨m + 1, by omega, by simp; omega, HE⟩, by simp [intOf]; omega⟩
end Go.Proofs.YtjeapaojbkicmabDoor
