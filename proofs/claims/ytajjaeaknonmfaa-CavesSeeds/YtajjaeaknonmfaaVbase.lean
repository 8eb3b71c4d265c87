/-
  Nine lists of bytes and nine chunks in memory, fields of bools; what is asked of a caves' package, as a structure. The document's small functions.
-/
import Derived.Test.YtajjaeaknonmfaaVmath
import Derived.Test.YtajjaeaknonmfaaCAwake
import Derived.Test.YtajjaeaknonmfaaTbase
import Derived.Test.YtajjaeaknonmfaaRHash
set_option maxRecDepth 20000
namespace Go.Proofs.Ytajjaeaknonmfaa
open C Go.RowKit

/-! ### bytes at the beginning of a block -/
def Pre (w : World) (b : Nat) (t : TypeId) (cs : List Int) : Prop := ∃ cur, w.heap[b]? = some (.cells cur t (0, 0)) ∧ cs.length ≤ cur.size ∧ ∀ k, k < cs.length → cur[k]? = some (.int .u8 (cs.getD k 0))
theorem Pre.lt {w : World} {b : Nat} {t : TypeId} {cs : List Int} (h : Pre w b t cs) : b < w.heap.size := by
  obtain ⟨cur, hc, _⟩ := h
  exact (Array.getElem?_eq_some_iff.1 hc).1
theorem Pre.cell {w : World} {b : Nat} {t : TypeId} {cs : List Int} (h : Pre w b t cs) {k : Nat} (hk : k < cs.length) : w.cell? ⟨b, k, none⟩ = some (.int .u8 (cs.getD k 0)) := by
  obtain ⟨cur, hc, _, he⟩ := h
  rw [cell_of_row w b k cur t (0, 0) hc]
  exact he k hk
theorem Pre.free {w : World} {b : Nat} {t : TypeId} {cs : List Int} (h : Pre w b t cs) (k : Nat) : w.frozen? ⟨b, k, none⟩ = false := by
  obtain ⟨cur, hc, _⟩ := h
  exact frozen_of_row w b k cur t hc
theorem Pre.set {w : World} {b : Nat} {t : TypeId} {cs : List Int} (h : Pre w b t cs) (k : Nat) (x : Int) : Pre (w.setCell ⟨b, k, none⟩ (.int .u8 x)) b t (cs.set k x) := by
  obtain ⟨cur, hc, hl, he⟩ := h
  refine ⟨_, heap_setCell_same w b k _ t _ hc, by rw [List.length_set, Array.size_setIfInBounds]; exact hl, fun j hj => ?_⟩
  rw [List.length_set] at hj
  by_cases e : k = j
  · subst e
    rw [Array.getElem?_setIfInBounds_self_of_lt (by omega), C.getD_set_self cs k x hj]
  · rw [Array.getElem?_setIfInBounds_ne e, C.getD_set_ne cs x e]
    exact he j hj
theorem Pre.below {w w' : World} {b n : Nat} {t : TypeId} {cs : List Int} (h : Pre w b t cs) (hb : Below n w w') (hn : b < n) : Pre w' b t cs := by
  obtain ⟨cur, hc, hr⟩ := h
  exact ⟨cur, (hb.block b hn).trans hc, hr⟩
theorem Pre.other {w : World} {b b' k : Nat} {t : TypeId} {cs : List Int} {v : Value} (h : Pre w b t cs) (hb : b ≠ b') : Pre (w.setCell ⟨b', k, none⟩ v) b t cs := by
  obtain ⟨cur, hc, hr⟩ := h
  exact ⟨cur, (Below.heap_setCell w ⟨b', k, none⟩ v b hb).trans hc, hr⟩
theorem Pre.src {w : World} {g : Nat} {t : TypeId} {cs : List Int} (h : Pre w g t cs) (hk : Kinds cs) : Src w (some ⟨g, 0, none⟩) cs.length cs :=
  ⟨rfl, fun k hk' => ⟨g, 0, rfl, h.lt, by rw [Nat.zero_add]; exact h.cell hk'⟩, hk.bytes⟩
theorem Pre.conv {w : World} {g c : Nat} {t : TypeId} {cs : List Int} (h : Pre w g t cs) (hl : cs.length = 32768) (hk : Kinds cs) : (convert 38 9 (.slice (some ⟨g, 0, none⟩) 32768 c)).run Try.prog w = .ok (.string (strOfNums cs)) w := by
  have := conv_c (cap := c) (h.src hk)
  rwa [hl] at this
theorem Blk.pre {w : World} {g : Nat} {t : TypeId} {cs : List Int} (h : Blk w g t cs) : Pre w g t cs :=
  ⟨_, h, by rw [vals_size]; exact Nat.le_refl _, fun k hk => by simp [vals, hk]⟩
/-! ### nine lists of bytes -/
structure B9 (w : World) (b : Nat) (g c : Nat → Nat) (css : List (List Int)) : Prop where
  n : css.length = 9
  row : ∀ i, i < 9 → w.cell? ⟨b, i, none⟩ = some (.slice (some ⟨g i, 0, none⟩) 32768 (c i))
  pre : ∀ i, i < 9 → Pre w (g i) 5 (css.getD i [])
  len : ∀ i, i < 9 → (css.getD i []).length = 32768
  kin : ∀ i, i < 9 → Kinds (css.getD i [])
theorem B9.on {w w' : World} {b : Nat} {g c : Nat → Nat} {css : List (List Int)} (h : B9 w b g c css) (hb : Below w.heap.size w w') : B9 w' b g c css :=
  ⟨h.n, fun i hi => cell_below (h.row i hi) hb, fun i hi => (h.pre i hi).below hb (h.pre i hi).lt, h.len, h.kin⟩
/-- Nine chunks. -/
structure N9 (w : World) (a : Option Addr) (g : Nat → Nat) (css : List (List Int)) : Prop where
  n : css.length = 9
  row : ∃ b o, a = some ⟨b, o, none⟩ ∧ ∀ i, i < 9 → w.cell? ⟨b, o + i, none⟩ = some (.pointer (some ⟨g i, 0, none⟩))
  blk : ∀ i, i < 9 → Blk w (g i) 73 (css.getD i [])
  len : ∀ i, i < 9 → (css.getD i []).length = 32768
  kin : ∀ i, i < 9 → Kinds (css.getD i [])
theorem N9.on {w w' : World} {a : Option Addr} {g : Nat → Nat} {css : List (List Int)} (h : N9 w a g css) (hb : Below w.heap.size w w') : N9 w' a g css :=
  ⟨h.n, by
    obtain ⟨b, o, e, hr⟩ := h.row
    exact ⟨b, o, e, fun i hi => cell_below (hr i hi) hb⟩, fun i hi => (h.blk i hi).below hb (h.blk i hi).lt, h.len, h.kin⟩
/-- A list of pointers to chunks, some of them none. -/
structure PtrsAt (w : World) (a : Option Addr) (ps : List (Option Nat)) : Prop where
  cells : ∀ i, i < ps.length → ∃ b o, a = some ⟨b, o, none⟩ ∧ w.cell? ⟨b, o + i, none⟩ = some (.pointer ((ps.getD i none).map fun g => ⟨g, 0, none⟩))
  blk : ∀ g, some g ∈ ps → ∃ cs, Blk w g 73 cs ∧ cs.length = 32768 ∧ Kinds cs
/-! ### what is asked -/
structure VSpec where
  G : World → Prop
  on : ∀ {w w' : World}, G w → Below w.heap.size w w' → G w'
  seed_ : ∀ (S : Nat) (X Y Z : Int) (w : World), S < 18446744073709551616 → I64 X → I64 Y → I64 Z → G w →
    Calls Try.prog 9 #[.int .u64 S, .agg #[.int .i64 X, .int .i64 Y, .int .i64 Z]] w fun e w' => e = .returned (.bool (sdN S X Y Z)) ∧ Below w.heap.size w w'
  carve_ : ∀ (S : Nat) (cx cz : Int) (a : Option Addr) (c : Nat) (g : Nat → Nat) (css : List (List Int)) (w : World), S < 18446744073709551616 → Far 1073741824 cx → Far 1073741824 cz → N9 w a g css → G w →
    Calls Try.prog 13 #[.int .u64 S, .agg #[.int .i64 cx, .int .i64 cz], .slice a 9 c] w fun e w' => Below w.heap.size w w' ∧ ∃ g', e = .returned (.tuple #[.pointer (some ⟨g', 0, none⟩), .int .i64 0]) ∧ Blk w' g' 73 (carveN S cx cz css)
  no_ : ∀ (S : Nat) (cx cz : Int) (a : Option Addr) (n c : Nat) (ps : List (Option Nat)) (w : World), S < 18446744073709551616 → Far 1073741824 cx → Far 1073741824 cz → PtrsAt w a ps → ps.length = n → n ≤ 100 → (n ≠ 9 ∨ none ∈ ps) → G w →
    Calls Try.prog 13 #[.int .u64 S, .agg #[.int .i64 cx, .int .i64 cz], .slice a n c] w fun e w' => e = .returned (.tuple #[.pointer none, .int .i64 1]) ∧ Below w.heap.size w w'

/-! ### the document's small functions -/
theorem rseed_c (S : Nat) (X Y Z : Int) (w : World) (hS : S < 18446744073709551616) :
    Calls Try.prog 10 #[.int .u64 S, .agg #[.int .i64 X, .int .i64 Y, .int .i64 Z]] w fun e w' => e = .returned (.bool (sdN S X Y Z)) ∧ Below w.heap.size w w' := by
  have Hb : Hid (Below w.heap.size w (w.alloc (.cells #[.int .i64 X, .int .i64 Y, .int .i64 Z] 24))) := (Below.refl _ _).alloc (Nat.le_refl _) _
  have hh := R.rhash_any S 20 X Y Z (w.alloc (.cells #[.int .i64 X, .int .i64 Y, .int .i64 Z] 24)) hS
  have hlt := R.hashN_lt S 20 X Y Z
  have hd : sdN S X Y Z = decide (R.belowN (R.hashN S 20 X Y Z) 100 < 46) := rfl
  rw [hd]
  clear hd
  generalize R.hashN S 20 X Y Z = h at *
  have hb := fun w => R.rbelow_any h 100 w hlt (by omega)
  generalize R.belowN h 100 = v at *
  go_enter Try.func10, Try.ntmps10
  go_wp2_with fail
  refine hh.mono ?_
  rintro _ w1 ⟨rfl, hb1⟩
  have Hb1 : Hid (Below w.heap.size w w1) := Hb.out.trans (hb1.mono Hb.out.size)
  clear hb1 Hb hh
  go_wp2_with fail
  refine (hb w1).mono ?_
  rintro _ w2 ⟨rfl, hw⟩
  replace hw := hw.symm
  subst hw
  clear hb
  go_wp2
  go_ret
  exact ⟨rfl, Hb1.out⟩
/-- The place of a cell in a field. -/
def plN (x y z : Int) : Int := ((y - 4) * 20 + z + 2) * 20 + x + 2
theorem rplace_c (x y z : Int) (w : World) (hx : -100 ≤ x ∧ x ≤ 100) (hy : -100 ≤ y ∧ y ≤ 100) (hz : -100 ≤ z ∧ z ≤ 100) : Calls Try.prog 34 #[.int .i64 x, .int .i64 y, .int .i64 z] w fun e w' => e = .returned (.int .i64 (plN x y z)) ∧ w' = w := by
  unfold plN
  obtain ⟨x0, x1⟩ := hx
  obtain ⟨y0, y1⟩ := hy
  obtain ⟨z0, z1⟩ := hz
  go_enter Try.func34, Try.ntmps34
  go_wp2
  go_ret
  exact ⟨rfl, rfl⟩
set_option maxHeartbeats 1000000 in
theorem rfit_c (b cp : Nat) (g c : Nat → Nat) (css : List (List Int)) (x y z : Int) (w : World) (hN : B9 w b g c css) (hx : -16 ≤ x ∧ x ≤ 31) (hz : -16 ≤ z ∧ z ≤ 31) :
    Calls Try.prog 33 #[.slice (some ⟨b, 0, none⟩) 9 cp, .int .i64 x, .int .i64 y, .int .i64 z] w fun e w' => e = .returned (.bool (fitN css x y z)) ∧ w' = w := by
  obtain ⟨x0, x1⟩ := hx
  obtain ⟨z0, z1⟩ := hz
  by_cases y0 : y < 6
  · have e : fitN css x y z = false := by unfold fitN; rw [decide_eq_false (by omega)]; rfl
    rw [e]
    clear e
    go_enter Try.func33, Try.ntmps33
    go_wp2
    go_ret
    exact ⟨rfl, rfl⟩
  by_cases y1 : 29 < y
  · have e : fitN css x y z = false := by unfold fitN; rw [decide_eq_false (by omega)]; rfl
    rw [e]
    clear e
    go_enter Try.func33, Try.ntmps33
    go_wp2
    go_ret
    exact ⟨rfl, rfl⟩
  have e : fitN css x y z = decide (cellN css x y z = 1) := by unfold fitN; rw [decide_eq_true (show 6 ≤ y ∧ y ≤ 29 by omega), Bool.true_and]
  rw [e]
  clear e
  unfold cellN
  have hq1 : Int.tdiv (x + 16) 16 = (x + 16) / 16 := Int.tdiv_eq_ediv_of_nonneg (by omega)
  have hr1 : Int.tmod (x + 16) 16 = (x + 16) % 16 := Int.tmod_eq_emod_of_nonneg (by omega)
  have hq2 : Int.tdiv (z + 16) 16 = (z + 16) / 16 := Int.tdiv_eq_ediv_of_nonneg (by omega)
  have hr2 : Int.tmod (z + 16) 16 = (z + 16) % 16 := Int.tmod_eq_emod_of_nonneg (by omega)
  obtain ⟨XQ, hXQ⟩ : ∃ XQ : Nat, (x + 16) / 16 = (XQ : Int) := ⟨((x + 16) / 16).toNat, by omega⟩
  obtain ⟨XR, hXR⟩ : ∃ XR : Nat, (x + 16) % 16 = (XR : Int) := ⟨((x + 16) % 16).toNat, by omega⟩
  obtain ⟨ZQ, hZQ⟩ : ∃ ZQ : Nat, (z + 16) / 16 = (ZQ : Int) := ⟨((z + 16) / 16).toNat, by omega⟩
  obtain ⟨ZR, hZR⟩ : ∃ ZR : Nat, (z + 16) % 16 = (ZR : Int) := ⟨((z + 16) % 16).toNat, by omega⟩
  obtain ⟨YY, rfl⟩ := Int.eq_ofNat_of_zero_le (show 0 ≤ y by omega)
  have b1 : XQ < 3 ∧ XR < 16 ∧ ZQ < 3 ∧ ZR < 16 := by omega
  rw [hXQ, hXR, hZQ, hZR]
  rw [hXQ] at hq1
  rw [hXR] at hr1
  rw [hZQ] at hq2
  rw [hZR] at hr2
  clear hXQ hXR hZQ hZR
  obtain ⟨b1, b2, b3, b4⟩ := b1
  have hn9 : ZQ * 3 + XQ < 9 := by omega
  have hk : YY * 256 + ZR * 16 + XR < 32768 := by omega
  rw [show ((ZQ : Int) * 3 + (XQ : Int)).toNat = ZQ * 3 + XQ by omega, show ((YY : Int) * 256 + (ZR : Int) * 16 + (XR : Int)).toNat = YY * 256 + ZR * 16 + XR by omega]
  have c0 := hN.row (ZQ * 3 + XQ) hn9
  have c1 := (hN.pre (ZQ * 3 + XQ) hn9).cell (k := YY * 256 + ZR * 16 + XR) (by rw [hN.len _ hn9]; exact hk)
  have hkb := (hN.kin (ZQ * 3 + XQ) hn9).at (YY * 256 + ZR * 16 + XR)
  clear hN
  generalize (css.getD (ZQ * 3 + XQ) []).getD (YY * 256 + ZR * 16 + XR) 0 = v at *
  generalize g (ZQ * 3 + XQ) = gg at *
  generalize c (ZQ * 3 + XQ) = cc at *
  go_enter Try.func33, Try.ntmps33
  go_wp2
  go_ret
  exact ⟨rfl, rfl⟩
end Go.Proofs.Ytajjaeaknonmfaa