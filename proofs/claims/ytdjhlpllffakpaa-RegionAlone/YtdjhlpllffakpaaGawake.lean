/-
  The chapter's examples hold of any region that keeps what is asked.
-/
import Derived.Test.YtdjhlpllffakpaaGopen
set_option maxRecDepth 20000
namespace Go.Proofs.Ytdjhlpllffakpaa
open Go.RowKit

/-- So many noughts. -/
def zeros (n : Nat) : List Int := List.replicate n 0
theorem zeros_len (n : Nat) : (zeros n).length = n := by simp [zeros]
theorem zeros_fit (n : Nat) : ∀ z ∈ zeros n, 0 ≤ z ∧ z ≤ 255 := fun z hz => by
  rw [List.eq_of_mem_replicate hz]
  omega
theorem needAll_set (d : List (List Int)) (k : Nat) (h : k < d.length) (b : List Int) : needAll (d.set k b) + needS d[k].length = needAll d + needS b.length := by
  unfold needAll
  have e1 : d = d.take k ++ d[k] :: d.drop (k + 1) := by rw [← List.drop_eq_getElem_cons h, List.take_append_drop]
  have e2 : d.set k b = d.take k ++ b :: d.drop (k + 1) := List.set_eq_take_append_cons_drop .. |>.trans (by rw [if_pos h])
  rw [e2]
  conv => rhs; rw [e1]
  simp only [List.map_append, List.map_cons, List.sum_append, List.sum_cons]
  omega
theorem plan_one (d : List (List Int)) (s : Nat) (hs : s < 16) (b : List Int) : planS d [⟨(s : Int), b⟩] = if 2 + needAll (d.set s b) ≤ 40 then (0, d.set s b) else (11, []) := by
  have e : chgAll d [] [⟨(s : Int), b⟩] = some (d.set s b) := by
    rw [chgAll, if_pos ⟨by simp only; omega, by simp only; omega, by simp⟩]
    simp only [Int.toNat_natCast]
    rfl
  unfold planS
  rw [e]
theorem need_dat0 : needAll dat0 = 0 := by decide
theorem need_set0 (k : Nat) (hk : k < 16) (b : List Int) : needAll (dat0.set k b) = needS b.length := by
  have h := needAll_set dat0 k (by simpa [dat0] using hk) b
  rw [need_dat0] at h
  have e : (dat0[k]'(by simpa [dat0] using hk)).length = 0 := by simp only [dat0, List.getElem_replicate]; rfl
  rw [e] at h
  have : needS 0 = 0 := by decide
  omega
/-- One change in a new slice. -/
theorem cg_one (w : World) (s : Int) (a : Option Addr) (n c : Nat) (b : List Int) (hs : I64 s) (hb : Bytes w a n b) (hn : a = none → c = 0) (hz : n ≤ 140737488351232) : CgsAt (w.alloc (.cells #[.int .i64 s, .slice a n c] 56)) (some ⟨w.heap.size, 0, none⟩) [⟨s, a, n, c, b⟩] := fun k h => by
  have hk : k = 0 := by simpa using h
  subst hk
  have hnew := heap_alloc_new w (.cells #[.int .i64 s, .slice a n c] 56)
  exact ⟨w.heap.size, 0, rfl, (cell_of_row _ _ 0 _ 56 (0, 0) hnew).trans rfl, (cell_of_row _ _ 1 _ 56 (0, 0) hnew).trans rfl, hb.on ((Below.refl _ _).alloc (Nat.le_refl _) _), hn, hs, hz⟩
theorem row_zeros {w : World} {g n : Nat} (h : Row w g (List.replicate n 0)) : Bytes w (some ⟨g, 0, none⟩) n (zeros n) := h.bytes (zeros_fit n) n (zeros_len n)

set_option maxHeartbeats 4000000 in
theorem awake_c (J : RSpec) (w : World) : Calls Try.prog 9 #[] w fun e w' => e = .returned (.bool true) ∧ Below w.heap.size w w' := by
  obtain ⟨Post, hPost⟩ : ∃ Post : Ending → World → Prop, Post = fun e w' => e = .returned (.bool true) ∧ Below w.heap.size w w' := ⟨_, rfl⟩
  rw [← hPost]
  have HP : Hid (∀ w', Below w.heap.size w w' → Post (.returned (.bool true)) w') := fun w' h => by rw [hPost]; exact ⟨rfl, h⟩
  clear hPost
  have i0 : I64 0 := by unfold I64; omega
  have hB0 : Blank St.new.l (2, 0, 0) := blank_nil _
  have hlen0 : ∀ k, k < 16 → k < dat0.length := fun k hk => by simpa [dat0] using hk
  go_enter Try.func9, Try.ntmps9
  go_wp2_with fail
  refine (dnew w).mono ?_
  rintro _ w1 ⟨d, Fd, rfl, hD1, _⟩
  go_wp2_with fail
  refine (dopen J hD1 0 0 i0 i0 (ok_blank hB0)).mono ?_
  rintro _ w2 ⟨g, rfl, hb2, hR2⟩
  rw [rho_blank hB0] at hR2
  have hD2 := hD1.on hb2
  clear hD1 hb2
  go_wp2_with (at_make; refine wpList_make_bytes _ rfl _ _ rfl 1217 1217 rfl rfl rfl (by omega) ?_; intro w3 HM3 hb3)
  have hy3 := row_zeros HM3.out
  have hb4 : Below w3.heap.size w3 (w3.alloc (.cells #[.int .i64 0, .slice (some ⟨w2.heap.size, 0, none⟩) 1217 1217] 56)) := (Below.refl _ _).alloc (Nat.le_refl _) _
  have hC4 := cg_one w3 0 (some ⟨w2.heap.size, 0, none⟩) 1217 1217 (zeros 1217) i0 hy3 (fun h => by cases h) (by omega)
  have hD4 := (hD2.on hb3).on hb4
  have hR4 := (hR2.on hb3).on hb4
  clear HM3 hy3 hb3 hb4 hD2 hR2
  generalize w3.alloc (.cells #[.int .i64 0, .slice (some ⟨w2.heap.size, 0, none⟩) 1217 1217] 56) = w4 at *
  refine (dplan J hD4 hR4 hC4 rfl (by simp only [List.length_cons, List.length_nil]; unfold maxLen; omega)).mono ?_
  have e11 : planS dat0 ([(⟨0, some ⟨w2.heap.size, 0, none⟩, 1217, 1217, zeros 1217⟩ : Cg)].map Cg.cs) = (11, []) := by
    have := plan_one dat0 0 (by omega) (zeros 1217)
    rw [need_set0 0 (by omega), zeros_len, if_neg (by decide)] at this
    exact this
  rintro _ w5 ⟨hb5, ⟨_, pa, pc, rfl⟩ | ⟨h0, _⟩⟩
  case inr => rw [show (Rho.mk 0 0 sp0 dat0).dat = dat0 from rfl, e11] at h0; cases h0
  rw [show (Rho.mk 0 0 sp0 dat0).dat = dat0 from rfl, e11]
  simp only
  have hD5 := hD4.on hb5
  have hR5 := hR4.on hb5
  clear hD4 hR4 hb5 hC4 e11
  go_wp2_with (at_make; refine wpList_make_bytes _ rfl _ _ rfl 40 40 rfl rfl rfl (by omega) ?_; intro w6 HM6 hb6)
  have hy6 := row_zeros HM6.out
  have hb7 : Below w6.heap.size w6 (w6.alloc (.cells #[.int .i64 3, .slice (some ⟨w5.heap.size, 0, none⟩) 40 40] 56)) := (Below.refl _ _).alloc (Nat.le_refl _) _
  have hC7 := cg_one w6 3 (some ⟨w5.heap.size, 0, none⟩) 40 40 (zeros 40) (by unfold I64; omega) hy6 (fun h => by cases h) (by omega)
  have hD7 := (hD5.on hb6).on hb7
  have hR7 := (hR5.on hb6).on hb7
  clear HM6 hy6 hb6 hb7 hD5 hR5
  generalize w6.alloc (.cells #[.int .i64 3, .slice (some ⟨w5.heap.size, 0, none⟩) 40 40] 56) = w7 at *
  refine (dplan J hD7 hR7 hC7 rfl (by simp only [List.length_cons, List.length_nil]; unfold maxLen; omega)).mono ?_
  have e0 : planS dat0 ([(⟨3, some ⟨w5.heap.size, 0, none⟩, 40, 40, zeros 40⟩ : Cg)].map Cg.cs) = (0, dat0.set 3 (zeros 40)) := by
    have := plan_one dat0 3 (by omega) (zeros 40)
    rw [need_set0 3 (by omega), zeros_len, if_pos (by decide)] at this
    exact this
  rw [show (Rho.mk 0 0 sp0 dat0).dat = dat0 from rfl, e0]
  rintro _ w8 ⟨hb8, ⟨h0, _⟩ | ⟨_, qa, qc, g', sp', ps, rfl, hR8, hP8, hok, hon⟩⟩
  case inl => exact absurd rfl h0
  have hD8 := hD7.on hb8
  have hS8 := hR7.on hb8
  have Hon : Hid (OnD (putAll (2, 0, 0) [] ps) ⟨0, 0, sp', dat0.set 3 (zeros 40)⟩) := hon [] (fun b hb => by cases hb) (on_blank (blank_nil _))
  clear hD7 hR7 hb8 hC7 e0 hon
  obtain ⟨np, hnp⟩ : ∃ np, np = ps.length := ⟨_, rfl⟩
  rw [← hnp]
  have Hnp : Hid (np = ps.length) := hnp
  clear hnp
  go_wp2_with fail
  rw [Hnp.out]
  refine (dwrites hD8 (f := (2, 0, 0)) (pc := qc) (by unfold I64F I64; simp only; omega) (by decide) hP8 hok).mono ?_
  rintro _ w9 ⟨rfl, Fd', S', hD9, hst, hl, _⟩
  have hT9 := hR8.stp hst
  have hS9 := hS8.stp hst
  have hop := open_on (L := S'.l) hT9.good.1 (by rw [hl]; exact Hon.out)
  clear hD8 hS8 hR8 hP8 hst
  go_wp2_with fail
  refine (dopen J hD9 0 0 i0 i0 hop.1).mono ?_
  rintro _ w10 ⟨g2, rfl, hb10, hR10⟩
  rw [hop.2] at hR10
  have hT10 := hT9.on hb10
  have hS10 := hS9.on hb10
  have HB10 : Hid (Below w.heap.size w w10) := hD9.bel.trans (hb10.mono hD9.bel.size)
  have e3 : getS ⟨0, 0, sp', dat0.set 3 (zeros 40)⟩ 3 = zeros 40 := by
    unfold getS
    rw [if_pos (by omega)]
    rfl
  have e4 : getS ⟨0, 0, sp0, dat0⟩ 3 = [] := by
    unfold getS
    rw [if_pos (by omega)]
    rfl
  have i3 : I64 3 := by unfold I64; omega
  clear hD9 hT9 hS9 hop hb10 Hon hok hl
  go_wp2_with fail
  refine (rget J hR10 3 i3).mono ?_
  rintro _ w11 ⟨hb11, xa, xc, rfl, _⟩
  rw [e3, zeros_len]
  have hT11 := hT10.on hb11
  have hS11 := hS10.on hb11
  have HB11 : Hid (Below w.heap.size w w11) := HB10.out.trans (hb11.mono HB10.out.size)
  clear hb11 hR10 hT10 hS10 HB10
  go_wp2_with fail
  refine (rget J hT11 3 i3).mono ?_
  rintro _ w12 ⟨hb12, ya, yc, rfl, _⟩
  rw [e3, zeros_len]
  have hS12 := hS11.on hb12
  have HB12 : Hid (Below w.heap.size w w12) := HB11.out.trans (hb12.mono HB11.out.size)
  clear hb12 hT11 hS11 HB11 e3
  go_wp2_with fail
  refine (rget J hS12 3 i3).mono ?_
  rintro _ w13 ⟨hb13, za, zc, rfl, _⟩
  rw [e4]
  simp only [List.length_nil]
  have HB13 : Hid (Below w.heap.size w w13) := HB12.out.trans (hb13.mono HB12.out.size)
  clear hb13 hS12 HB12 e4
  go_wp2_with fail
  refine (J.need_ 33 w13 (by unfold I64; omega) (by omega)).mono ?_
  rintro _ w14 ⟨rfl, hb14⟩
  rw [show needI 33 = 2 by decide]
  have HB14 : Hid (Below w.heap.size w w14) := HB13.out.trans (hb14.mono HB13.out.size)
  clear hb14 HB13
  go_wp2_with fail
  refine (J.need_ 0 w14 i0 (by omega)).mono ?_
  rintro _ w15 ⟨rfl, hb15⟩
  rw [show needI 0 = 0 by decide]
  have R := HP.out w15 (HB14.out.trans (hb15.mono HB14.out.size))
  clear hb15 HB14 HP
  go_wp2
  exact R
end Go.Proofs.Ytdjhlpllffakpaa
