/-
  slices.Sort and slices.Compact at numbers: the library's functions of this program are those that the library's contracts were proved of.
  The landed build: the origins about a chunk, one way.
-/
import Derived.Shelf.Sort.Plain
import Derived.Shelf.Slices.CompactI
import Derived.Test.YtbdjgaagafnfaaaProg
import Derived.Test.YtbdjgaagafnfaaaHmap
import Derived.Test.YtbdjgaagafnfaaaBmath
import Derived.Sort.Grow
import Derived.Lib.OwnBridge
set_option maxRecDepth 20000
namespace Go.Proofs.Ytbdjgaagafnfaaa
section
open Go.Shelf
def sortI_ren : Go.Shelf.Ren := ⟨fun | 189 => 73 | 125 => 80 | 257 => 79 | 128 => 97 | 129 => 98 | 294 => 88 | 295 => 89 | 296 => 90 | 297 => 91 | 298 => 92 | 299 => 93 | 216 => 94 | 300 => 95 | 301 => 96 | 328 => 101 | 329 => 102 | 330 => 103 | 331 => 104 | 332 => 105 | 215 => 106 | 343 => 107 | n => n, fun | 28 => 24 | 3 => 3 | 46 => 111 | 0 => 0 | 51 => 154 | 53 => 29 | 4 => 4 | 183 => 148 | 182 => 147 | 131 => 53 | 5 => 5 | 9 => 9 | 218 => 156 | 222 => 160 | 228 => 162 | 229 => 163 | n => n, fun | n => n⟩
theorem sortI : Go.Proofs.Lays.n189 Try.prog sortI_ren := {
  mixed := by kernel_rfl
  f125 := Try.func80.trans (congrArg some (by kernel_rfl))
  f128 := Try.func97.trans (congrArg some (by kernel_rfl))
  f129 := Try.func98.trans (congrArg some (by kernel_rfl))
  f189 := Try.func73.trans (congrArg some (by kernel_rfl))
  f215 := Try.func106.trans (congrArg some (by kernel_rfl))
  f216 := Try.func94.trans (congrArg some (by kernel_rfl))
  f257 := Try.func79.trans (congrArg some (by kernel_rfl))
  f294 := Try.func88.trans (congrArg some (by kernel_rfl))
  f295 := Try.func89.trans (congrArg some (by kernel_rfl))
  f296 := Try.func90.trans (congrArg some (by kernel_rfl))
  f297 := Try.func91.trans (congrArg some (by kernel_rfl))
  f298 := Try.func92.trans (congrArg some (by kernel_rfl))
  f299 := Try.func93.trans (congrArg some (by kernel_rfl))
  f300 := Try.func95.trans (congrArg some (by kernel_rfl))
  f301 := Try.func96.trans (congrArg some (by kernel_rfl))
  f328 := Try.func101.trans (congrArg some (by kernel_rfl))
  f329 := Try.func102.trans (congrArg some (by kernel_rfl))
  f330 := Try.func103.trans (congrArg some (by kernel_rfl))
  f331 := Try.func104.trans (congrArg some (by kernel_rfl))
  f332 := Try.func105.trans (congrArg some (by kernel_rfl))
  f343 := Try.func107.trans (congrArg some (by kernel_rfl))
  t0 := Try.underlying0
  a0 := Try.isAgg0
  z0 := Try.sizeOf0
  v0 := Try.zeroValue0
  t3 := Try.underlying3
  a3 := Try.isAgg3
  z3 := Try.sizeOf3
  v3 := Try.zeroValue3
  t4 := Try.underlying4
  a4 := Try.isAgg4
  z4 := Try.sizeOf4
  v4 := Try.zeroValue4
  t5 := Try.underlying5
  a5 := Try.isAgg5
  z5 := Try.sizeOf5
  v5 := Try.zeroValue5
  t9 := Try.underlying9
  a9 := Try.isAgg9
  z9 := Try.sizeOf9
  v9 := Try.zeroValue9
  t28 := Try.underlying24
  a28 := Try.isAgg24
  z28 := Try.sizeOf24
  v28 := Try.zeroValue24
  t46 := Try.underlying111
  a46 := Try.isAgg111
  z46 := Try.sizeOf111
  v46 := Try.zeroValue111
  t51 := Try.underlying154
  a51 := Try.isAgg154
  z51 := Try.sizeOf154
  v51 := Try.zeroValue154
  t53 := Try.underlying29
  a53 := Try.isAgg29
  z53 := Try.sizeOf29
  v53 := Try.zeroValue29
  t131 := Try.underlying53
  a131 := Try.isAgg53
  z131 := Try.sizeOf53
  v131 := Try.zeroValue53
  t182 := Try.underlying147
  a182 := Try.isAgg147
  z182 := Try.sizeOf147
  v182 := Try.zeroValue147
  t183 := Try.underlying148
  a183 := Try.isAgg148
  z183 := Try.sizeOf148
  v183 := Try.zeroValue148
  t218 := Try.underlying156
  a218 := Try.isAgg156
  z218 := Try.sizeOf156
  v218 := Try.zeroValue156
  t222 := Try.underlying160
  a222 := Try.isAgg160
  z222 := Try.sizeOf160
  v222 := Try.zeroValue160
  t228 := Try.underlying162
  a228 := Try.isAgg162
  z228 := Try.sizeOf162
  v228 := Try.zeroValue162
  t229 := Try.underlying163
  a229 := Try.isAgg163
  z229 := Try.sizeOf163
  v229 := Try.zeroValue163 }
def compI_ren : Go.Shelf.Ren := ⟨fun | 20 => 74 | n => n, fun | 22 => 24 | 3 => 3 | 4 => 4 | 0 => 0 | n => n, fun | n => n⟩
theorem compI : Go.Proofs.Lays2.n20 Try.prog compI_ren := {
  mixed := by kernel_rfl
  f20 := Try.func74.trans (congrArg some (by kernel_rfl))
  t0 := Try.underlying0
  a0 := Try.isAgg0
  z0 := Try.sizeOf0
  v0 := Try.zeroValue0
  t3 := Try.underlying3
  a3 := Try.isAgg3
  z3 := Try.sizeOf3
  v3 := Try.zeroValue3
  t4 := Try.underlying4
  a4 := Try.isAgg4
  z4 := Try.sizeOf4
  v4 := Try.zeroValue4
  t22 := Try.underlying24
  a22 := Try.isAgg24
  z22 := Try.sizeOf24
  v22 := Try.zeroValue24
  i3 := by kernel_rfl }
end
section
open Go.RowKit Go.Sort Go.Shelf

/-! ### plain -/
def orgAt (s : Nat) (c : Int) (i : Nat) : Int := (c * 16 - 2 + (i : Int)) / side s
def orgAll (s : Nat) (c : Int) : List Int := (List.range 20).map (orgAt s c)
def orgs (s : Nat) (c : Int) : List Int := (List.range (many s c)).map fun j : Nat => lo s c + (j : Int)
theorem orgAll_len (s : Nat) (c : Int) : (orgAll s c).length = 20 := by simp [orgAll]
theorem orgs_len (s : Nat) (c : Int) : (orgs s c).length = many s c := by simp [orgs]
theorem orgAt_next (s : Nat) (c : Int) (i : Nat) : orgAt s c (i + 1) = orgAt s c i ∨ orgAt s c (i + 1) = orgAt s c i + 1 := by
  unfold orgAt
  rcases side_cases s with e | e | e <;> rw [e] <;> omega
theorem orgAt_mono (s : Nat) (c : Int) {i j : Nat} (h : i < j) : orgAt s c i ≤ orgAt s c j := by
  unfold orgAt
  exact div_mono s (by omega)
theorem orgAll_sorted (s : Nat) (c : Int) : ((orgAll s c).mergeSort fun x y => decide (x ≤ y)) = orgAll s c := by
  refine List.mergeSort_of_pairwise ?_
  unfold orgAll
  rw [List.pairwise_map]
  exact List.pairwise_lt_range.imp (fun h => decide_eq_true (orgAt_mono s c h))
theorem orgAll_at (s : Nat) (c : Int) (j : Nat) (h : j < 20) : (orgAll s c).toArray[j]! = orgAt s c j := by
  rw [getElem!_pos _ j (by simp [orgAll]; exact h)]
  simp [orgAll]
theorem upTo_is (s : Nat) (c : Int) : ∀ m, m < 20 → Lib.compactUpTo (orgAll s c).toArray (m + 1) = (List.range (orgAt s c m - orgAt s c 0 + 1).toNat).map fun j : Nat => orgAt s c 0 + (j : Int)
  | 0, _ => by
    rw [Lib.compactUpTo_succ, if_pos (Lib.keeps_lt_one _ 0 (by omega)), orgAll_at s c 0 (by omega), show (orgAt s c 0 - orgAt s c 0 + 1).toNat = 1 by omega]
    simp [Lib.compactUpTo]
  | m + 1, h => by
    have hge : orgAt s c 0 ≤ orgAt s c m := by
      rcases Nat.eq_zero_or_pos m with e | e
      · rw [e]; exact Int.le_refl _
      · exact orgAt_mono s c e
    rw [Lib.compactUpTo_succ, upTo_is s c m (by omega), orgAll_at s c (m + 1) h]
    unfold Lib.keeps
    rw [orgAll_at s c (m + 1) h, Nat.add_sub_cancel, orgAll_at s c m (by omega)]
    rcases orgAt_next s c m with e | e
    · rw [e, if_neg (by simp), List.append_nil]
    · rw [e, if_pos (by simp; omega), show (orgAt s c m + 1 - orgAt s c 0 + 1).toNat = (orgAt s c m - orgAt s c 0 + 1).toNat + 1 by omega, List.range_succ, List.map_append]
      congr 1
      simp
      omega
theorem orgAll_compact (s : Nat) (c : Int) : Lib.compact (orgAll s c) = orgs s c := by
  unfold Lib.compact
  rw [orgAll_len, upTo_is s c 19 (by omega)]
  unfold orgs many lo
  have e0 : orgAt s c 0 = (c * 16 - 2) / side s := by unfold orgAt; simp
  have e1 : orgAt s c 19 = (c * 16 + 17) / side s := by unfold orgAt; congr 1; omega
  rw [e0, e1]
/-! ### worlds -/
theorem below_grown {B : Nat} {w0 w : World} {os : Array Obj} (h : Below B w0 w) (hB : B ≤ w.heap.size) : Below B w0 (grow w os) :=
  ⟨h.os, h.tape, h.output, by simp [grow]; have := h.size; omega, fun k hk => by rw [heap_grow_old _ _ (by omega)]; exact h.block k hk⟩
def OrgSay (w : World) (s : Nat) (c : Int) (e : Ending) (w' : World) : Prop :=
  Below w.heap.size w w' ∧ ∃ g cap, e = .returned (.slice (some ⟨g, 0, none⟩) (many s c) cap) ∧ w.heap.size ≤ g ∧ ∀ j, j < many s c → w'.cell? ⟨g, j, none⟩ = some (.int .i64 (lo s c + (j : Int)))
set_option maxHeartbeats 1000000 in
theorem origins_c (s : Nat) (c : Int) (w : World) (hc : -1073741825 ≤ c ∧ c ≤ 1073741825) : Calls Try.prog 60 #[.int .i64 (c * 16), .int .i64 (side s)] w (OrgSay w s c) := by
  obtain ⟨Post, hPost⟩ : ∃ Post, Post = OrgSay w s c := ⟨_, rfl⟩
  rw [← hPost]
  have HP : Hid (∀ e w', OrgSay w s c e w' → Post e w') := fun e w' h => by rw [hPost]; exact h
  clear hPost
  have Hs : Hid (1 ≤ side s ∧ side s ≤ 9223372036854775807) := by rcases side_cases s with e | e | e <;> rw [e] <;> exact ⟨by omega, by omega⟩
  have Hx : Hid (∀ k, k < 20 → (orgAll s c).take (k + 1) = (orgAll s c).take k ++ [(c * 16 + ((k : Int) - 2)) / side s]) := fun k hk => by
    have hlt : k < (orgAll s c).length := by rw [orgAll_len]; exact hk
    rw [List.take_succ_eq_append_getElem hlt]
    congr 2
    simp [orgAll, orgAt]
    congr 1
    omega
  have Hl := orgAll_len s c
  generalize hSD : side s = SD at *
  generalize hXS : orgAll s c = XS at *
  have Hcs : Hid (side s = SD ∧ orgAll s c = XS) := ⟨hSD, hXS⟩
  clear hSD hXS
  have HC : Hid (-1073741825 ≤ c ∧ c ≤ 1073741825) := hc
  clear hc
  go_enter Try.func60, Try.ntmps60
  go_wp2
  go_loopw [5, 6] (fun v5 v6 wr => ∃ (k : Nat) (av : Option Addr) (cv : Nat), k ≤ 20 ∧ v6 = .int .i64 ((k : Int) - 2) ∧ v5 = .slice av k cv ∧ Hid (OwnI wr w.heap.size av cv (XS.take k) ∧ Below w.heap.size w wr)) (fun _ v6 _ => (18 - intOf v6).toNat)
  case atStart => exact ⟨0, none, 0, by omega, rfl, rfl, World.ownsRow_nil _ _ _ _, Below.refl _ _⟩
  case round =>
    obtain ⟨k, av, cv, hk, rfl, rfl, HO⟩ := hrel
    by_cases hlt : k < 20
    case neg =>
      obtain rfl : k = 20 := by omega
      have e20 : XS.take 20 = XS := List.take_of_length_le (by omega)
      have ho := HO.out.1
      rw [e20] at ho
      have hne : (Value.slice av XS.length cv) ≠ .slice none 0 0 := fun e => by
        have h0 : XS.length = 0 := by injection e
        omega
      obtain ⟨g, cap, hv, hg0, hg1, hcap, hmx, _, hH⟩ := Lib.holds_of_ownsRow (enc := Value.int .i64) (zs := XS) ho hne
      rw [Hl] at hv hcap
      injection hv with ha hb hc
      subst ha
      subst hc
      have hsrt : Calls Try.prog 73 #[.slice (some ⟨g, 0, none⟩) 20 cv] wr fun e w' => e = .returned (.tuple #[]) ∧ ∃ n os, w' = grow (putRow (Value.int .i64) (Sort.ahead wr n) g 0 XS.toArray) os := by
        have h := Any.slices_Sort_int sortI g 0 cv XS wr hH hg1 (by omega)
        rw [Hl, ← Hcs.out.2, orgAll_sorted, Hcs.out.2] at h
        exact h
      have Hb0 : Hid (Below w.heap.size w wr ∧ w.heap.size ≤ g ∧ g < wr.heap.size ∧ 20 ≤ cv ∧ Holds (Value.int .i64) wr g 0 XS.toArray) := ⟨HO.out.2, hg0, hg1, hcap, hH⟩
      clear HO ho hne hg0 hg1 hcap hmx hH e20 Hx Hs HC hb
      have h18 : ¬ ((20 : Nat) : Int) - 2 < 18 := by omega
      go_wp2_with fail
      refine hsrt.mono ?_
      clear hsrt
      rintro _ w2 ⟨rfl, n, os, hw2⟩
      have hH2 : Holds (Value.int .i64) w2 g 0 XS.toArray := by
        rw [hw2]
        exact holds_grow _ _ os g 0 _ (by simpa [putRow, mapBlock, Sort.ahead] using Hb0.out.2.2.1) (holds_putRow _ _ g 0 _ _ (holds_ahead _ wr n g 0 _ Hb0.out.2.2.2.2) rfl)
      have hb2 : Below w.heap.size w w2 := by
        rw [hw2]
        have h1 : Below w.heap.size w (putRow (Value.int .i64) (Sort.ahead wr n) g 0 XS.toArray) := Lib.below_putRow Hb0.out.1 Hb0.out.2.1
        exact below_grown h1 h1.size
      have hcmp : Calls Try.prog 74 #[.slice (some ⟨g, 0, none⟩) 20 cv] w2 fun e w' => e = .returned (.slice (some ⟨g, 0, none⟩) (many s c) cv) ∧ ∃ q, w' = putRow (Value.int .i64) (Sort.ahead w2 q) g 0 (orgs s c ++ List.replicate (20 - many s c) 0).toArray := by
        have h := Any.slices_Compact_int compI g 0 cv XS w2 hH2 (by omega) (by rw [Hl]; exact Hb0.out.2.2.2.1)
        rw [Hl, ← Hcs.out.2, orgAll_compact, orgs_len] at h
        exact h
      have Hm : Hid (many s c ≤ 20) := by
        have := Lib.compact_length_le XS
        rw [← Hcs.out.2, orgAll_compact, orgs_len, orgAll_len] at this
        exact this
      have H2 : Hid (Below w.heap.size w w2 ∧ w.heap.size ≤ g ∧ Holds (Value.int .i64) w2 g 0 XS.toArray) := ⟨hb2, Hb0.out.2.1, hH2⟩
      clear hw2 hH2 hb2 Hb0
      go_wp2_with fail
      refine hcmp.mono ?_
      clear hcmp
      rintro _ w3 ⟨rfl, q, hw3⟩
      have R : OrgSay w s c (.returned (.slice (some ⟨g, 0, none⟩) (many s c) cv)) w3 := by
        refine ⟨by rw [hw3]; exact Lib.below_putRow H2.out.1 H2.out.2.1, g, cv, rfl, H2.out.2.1, fun j hj => ?_⟩
        rw [hw3]
        have hm := Hm.out
        have hh := holds_putRow (Value.int .i64) (Sort.ahead w2 q) g 0 XS.toArray (orgs s c ++ List.replicate (20 - many s c) 0).toArray (holds_ahead _ w2 q g 0 _ H2.out.2.2) (by simp [orgs_len, Hl]; omega)
        have := (hh j (by simp [orgs_len]; omega)).1
        rw [Nat.zero_add] at this
        rw [this, getElem!_pos _ j (by simp [orgs_len]; omega)]
        simp only [List.getElem_toArray]
        rw [List.getElem_append_left (by rw [orgs_len]; exact hj)]
        simp [orgs]
      have RR := HP.out _ _ R
      clear HP R H2 Hm hw3
      go_wp2
      exact RR
    have hlt' : (k : Int) - 2 < 18 := by omega
    have hc := HC.out
    have hdv := fun w => N.div_hi (c * 16 + ((k : Int) - 2)) SD w Hs.out.1 Hs.out.2 (by omega) (by omega)
    have wk : IntKind.i64.wrap (c * 16 + ((k : Int) - 2)) = c * 16 + ((k : Int) - 2) := by rw [IntKind.wrap_i64]; omega
    have wk2 : IntKind.i64.wrap ((k : Int) - 2 + 1) = ((k + 1 : Nat) : Int) - 2 := by rw [IntKind.wrap_i64]; omega
    have Hxk := Hx.out k hlt
    clear hc
    generalize (c * 16 + ((k : Int) - 2)) / SD = y at *
    obtain ⟨L0, hL0⟩ : ∃ L0, L0 = XS.take k := ⟨_, rfl⟩
    have hLn : L0.length = k := by rw [hL0, List.length_take]; omega
    rw [← hL0] at HO Hxk
    have HE : Hid (XS.take (k + 1) = L0 ++ [y]) := Hxk
    clear hL0 Hxk HP
    have HO1 : Hid (OwnI (wr.alloc (.cells #[.int .i64 y] 3)) w.heap.size av cv L0 ∧ Below w.heap.size w (wr.alloc (.cells #[.int .i64 y] 3))) :=
      ⟨ownsRow_on HO.out.1 ((Below.refl _ _).alloc (Nat.le_refl _) _), HO.out.2.alloc HO.out.2.size _⟩
    go_wp2_with (first | (go_at_call 40; refine (hdv _).mono ?_; rintro _ w1 ⟨rfl, hw1⟩; subst w1) | (at_builtin; refine wpList_append_int rfl _ _ rfl w.heap.size av k cv L0 hLn rfl HO1.out.1 ⟨wr.heap.size, 0, none⟩ y rfl (cell_one_int _ _ _) (by omega) HO1.out.2.size ?_; intro a3 c3 w3 HO3 hg3 hat3))
    have HO4 : Hid (OwnI w3 w.heap.size a3 c3 (XS.take (k + 1)) ∧ Below w.heap.size w w3) := by
      rw [HE.out]
      exact ⟨HO3.out, HO1.out.2.grown hg3 HO1.out.2.size (fun g hg => (own_lt HO1.out.1 hLn g hg).1)⟩
    go_roundw
    case rel => exact ⟨k + 1, a3, c3, by omega, rfl, rfl, HO4⟩
    case measure => simp [intOf]; omega
end
end Go.Proofs.Ytbdjgaagafnfaaa
