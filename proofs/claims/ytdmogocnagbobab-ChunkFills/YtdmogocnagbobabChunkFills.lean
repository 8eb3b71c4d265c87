/-
  ChunkFillsSaid is proved: for every slice of calls and all integers the statement ChunkFills returns true, without any condition.
-/
import Derived.Test.YtdmogocnagbobabMores
import Derived.Deep.DeepCutAuto
namespace Go.Proofs.Ytdmogocnagbobab
open Go.ChangeShapes Go.WideShapes Go.ChangeAt Go.RowKit

set_option maxRecDepth 100000 in
set_option maxHeartbeats 4000000 in
theorem chunkFills_bad (p : Option Addr) (n cap : Nat) (l : List Op4) (a b k : Int) (w : World) (hO : Ops w p n l) (hok : ¬ (0 ≤ a ∧ b < 128 ∧ a ≤ b ∧ 0 ≤ k ∧ k ≤ 16)) :
    Calls Try.prog 4 #[.slice p n cap, .int .i64 a, .int .i64 b, .int .i64 k] w fun e w' => e = .returned (.bool true) ∧ Below w.heap.size w w' := by
  by_cases a0 : a < 0
  · go_enter Try.func4, Try.ntmps4
    go_wp2_with fail
    refine (awake_c w).mono ?_
    rintro _ w1 ⟨rfl, hb1⟩
    go_wp2_with fail
    refine (plays_c p n cap l w1 (hO.on hb1)).mono ?_
    rintro _ w2 ⟨rfl, hC, hR, hb2⟩
    have R2 := hb1.trans (hb2.mono hb1.size)
    have hlen := playTo_length l (min n 400)
    have hkin := playTo_kinds l (min n 400)
    have hg : w.heap.size ≤ w1.heap.size := hb1.size
    have hgl : w1.heap.size < w2.heap.size := hC.lt
    have hrl : w1.heap.size + 1 < w2.heap.size := hR.lt
    generalize playTo l (min n 400) = cs at *
    clear hb1 hb2
    generalize w1.heap.size = g at *
    go_wp2_with fail
    refine (copy_c g cs _ hC hlen).mono ?_
    rintro _ w3 ⟨rfl, e3⟩
    have hD3 : Blk w3 w2.heap.size 51 cs := by rw [e3]; exact Blk.new w2 51 cs
    have hb3 : Below w2.heap.size w2 w3 := by rw [e3]; exact (Below.refl _ _).alloc (Nat.le_refl _) _
    have hC3 := hC.below hb3 hgl
    have R3 := R2.trans (hb3.mono R2.size)
    clear e3 hb3 hC hR R2
    generalize w2.heap.size = d at *
    go_wp2_with fail
    refine (fill_c g cs a b k _ hC3 hlen).mono ?_
    rw [(okFill_no hok cs).1, (okFill_no hok cs).2]
    rintro _ w4 ⟨rfl, hC4, ho4⟩
    have hD4 := hD3.only ho4 (by omega)
    have R4 := R3.trans (ho4.below hg)
    clear hD3 hC3 ho4 R3
    go_wp2_with fail
    refine (diff_like g d cs _ hC4 hD4 hlen).mono ?_
    rintro _ w5 ⟨rfl, _, hb5⟩
    have R5 := R4.trans (hb5.mono R4.size)
    go_wp2
    go_ret
    exact ⟨rfl, R5⟩
  · by_cases b0 : 128 ≤ b
    · go_enter Try.func4, Try.ntmps4
      go_wp2_with fail
      refine (awake_c w).mono ?_
      rintro _ w1 ⟨rfl, hb1⟩
      go_wp2_with fail
      refine (plays_c p n cap l w1 (hO.on hb1)).mono ?_
      rintro _ w2 ⟨rfl, hC, hR, hb2⟩
      have R2 := hb1.trans (hb2.mono hb1.size)
      have hlen := playTo_length l (min n 400)
      have hkin := playTo_kinds l (min n 400)
      have hg : w.heap.size ≤ w1.heap.size := hb1.size
      have hgl : w1.heap.size < w2.heap.size := hC.lt
      have hrl : w1.heap.size + 1 < w2.heap.size := hR.lt
      generalize playTo l (min n 400) = cs at *
      clear hb1 hb2
      generalize w1.heap.size = g at *
      go_wp2_with fail
      refine (copy_c g cs _ hC hlen).mono ?_
      rintro _ w3 ⟨rfl, e3⟩
      have hD3 : Blk w3 w2.heap.size 51 cs := by rw [e3]; exact Blk.new w2 51 cs
      have hb3 : Below w2.heap.size w2 w3 := by rw [e3]; exact (Below.refl _ _).alloc (Nat.le_refl _) _
      have hC3 := hC.below hb3 hgl
      have R3 := R2.trans (hb3.mono R2.size)
      clear e3 hb3 hC hR R2
      generalize w2.heap.size = d at *
      go_wp2_with fail
      refine (fill_c g cs a b k _ hC3 hlen).mono ?_
      rw [(okFill_no hok cs).1, (okFill_no hok cs).2]
      rintro _ w4 ⟨rfl, hC4, ho4⟩
      have hD4 := hD3.only ho4 (by omega)
      have R4 := R3.trans (ho4.below hg)
      clear hD3 hC3 ho4 R3
      go_wp2_with fail
      refine (diff_like g d cs _ hC4 hD4 hlen).mono ?_
      rintro _ w5 ⟨rfl, _, hb5⟩
      have R5 := R4.trans (hb5.mono R4.size)
      go_wp2
      go_ret
      exact ⟨rfl, R5⟩
    · by_cases ab : b < a
      · go_enter Try.func4, Try.ntmps4
        go_wp2_with fail
        refine (awake_c w).mono ?_
        rintro _ w1 ⟨rfl, hb1⟩
        go_wp2_with fail
        refine (plays_c p n cap l w1 (hO.on hb1)).mono ?_
        rintro _ w2 ⟨rfl, hC, hR, hb2⟩
        have R2 := hb1.trans (hb2.mono hb1.size)
        have hlen := playTo_length l (min n 400)
        have hkin := playTo_kinds l (min n 400)
        have hg : w.heap.size ≤ w1.heap.size := hb1.size
        have hgl : w1.heap.size < w2.heap.size := hC.lt
        have hrl : w1.heap.size + 1 < w2.heap.size := hR.lt
        generalize playTo l (min n 400) = cs at *
        clear hb1 hb2
        generalize w1.heap.size = g at *
        go_wp2_with fail
        refine (copy_c g cs _ hC hlen).mono ?_
        rintro _ w3 ⟨rfl, e3⟩
        have hD3 : Blk w3 w2.heap.size 51 cs := by rw [e3]; exact Blk.new w2 51 cs
        have hb3 : Below w2.heap.size w2 w3 := by rw [e3]; exact (Below.refl _ _).alloc (Nat.le_refl _) _
        have hC3 := hC.below hb3 hgl
        have R3 := R2.trans (hb3.mono R2.size)
        clear e3 hb3 hC hR R2
        generalize w2.heap.size = d at *
        go_wp2_with fail
        refine (fill_c g cs a b k _ hC3 hlen).mono ?_
        rw [(okFill_no hok cs).1, (okFill_no hok cs).2]
        rintro _ w4 ⟨rfl, hC4, ho4⟩
        have hD4 := hD3.only ho4 (by omega)
        have R4 := R3.trans (ho4.below hg)
        clear hD3 hC3 ho4 R3
        go_wp2_with fail
        refine (diff_like g d cs _ hC4 hD4 hlen).mono ?_
        rintro _ w5 ⟨rfl, _, hb5⟩
        have R5 := R4.trans (hb5.mono R4.size)
        go_wp2
        go_ret
        exact ⟨rfl, R5⟩
      · by_cases k0 : k < 0
        · go_enter Try.func4, Try.ntmps4
          go_wp2_with fail
          refine (awake_c w).mono ?_
          rintro _ w1 ⟨rfl, hb1⟩
          go_wp2_with fail
          refine (plays_c p n cap l w1 (hO.on hb1)).mono ?_
          rintro _ w2 ⟨rfl, hC, hR, hb2⟩
          have R2 := hb1.trans (hb2.mono hb1.size)
          have hlen := playTo_length l (min n 400)
          have hkin := playTo_kinds l (min n 400)
          have hg : w.heap.size ≤ w1.heap.size := hb1.size
          have hgl : w1.heap.size < w2.heap.size := hC.lt
          have hrl : w1.heap.size + 1 < w2.heap.size := hR.lt
          generalize playTo l (min n 400) = cs at *
          clear hb1 hb2
          generalize w1.heap.size = g at *
          go_wp2_with fail
          refine (copy_c g cs _ hC hlen).mono ?_
          rintro _ w3 ⟨rfl, e3⟩
          have hD3 : Blk w3 w2.heap.size 51 cs := by rw [e3]; exact Blk.new w2 51 cs
          have hb3 : Below w2.heap.size w2 w3 := by rw [e3]; exact (Below.refl _ _).alloc (Nat.le_refl _) _
          have hC3 := hC.below hb3 hgl
          have R3 := R2.trans (hb3.mono R2.size)
          clear e3 hb3 hC hR R2
          generalize w2.heap.size = d at *
          go_wp2_with fail
          refine (fill_c g cs a b k _ hC3 hlen).mono ?_
          rw [(okFill_no hok cs).1, (okFill_no hok cs).2]
          rintro _ w4 ⟨rfl, hC4, ho4⟩
          have hD4 := hD3.only ho4 (by omega)
          have R4 := R3.trans (ho4.below hg)
          clear hD3 hC3 ho4 R3
          go_wp2_with fail
          refine (diff_like g d cs _ hC4 hD4 hlen).mono ?_
          rintro _ w5 ⟨rfl, _, hb5⟩
          have R5 := R4.trans (hb5.mono R4.size)
          go_wp2
          go_ret
          exact ⟨rfl, R5⟩
        · have k1 : 16 < k := by omega
          go_enter Try.func4, Try.ntmps4
          go_wp2_with fail
          refine (awake_c w).mono ?_
          rintro _ w1 ⟨rfl, hb1⟩
          go_wp2_with fail
          refine (plays_c p n cap l w1 (hO.on hb1)).mono ?_
          rintro _ w2 ⟨rfl, hC, hR, hb2⟩
          have R2 := hb1.trans (hb2.mono hb1.size)
          have hlen := playTo_length l (min n 400)
          have hkin := playTo_kinds l (min n 400)
          have hg : w.heap.size ≤ w1.heap.size := hb1.size
          have hgl : w1.heap.size < w2.heap.size := hC.lt
          have hrl : w1.heap.size + 1 < w2.heap.size := hR.lt
          generalize playTo l (min n 400) = cs at *
          clear hb1 hb2
          generalize w1.heap.size = g at *
          go_wp2_with fail
          refine (copy_c g cs _ hC hlen).mono ?_
          rintro _ w3 ⟨rfl, e3⟩
          have hD3 : Blk w3 w2.heap.size 51 cs := by rw [e3]; exact Blk.new w2 51 cs
          have hb3 : Below w2.heap.size w2 w3 := by rw [e3]; exact (Below.refl _ _).alloc (Nat.le_refl _) _
          have hC3 := hC.below hb3 hgl
          have R3 := R2.trans (hb3.mono R2.size)
          clear e3 hb3 hC hR R2
          generalize w2.heap.size = d at *
          go_wp2_with fail
          refine (fill_c g cs a b k _ hC3 hlen).mono ?_
          rw [(okFill_no hok cs).1, (okFill_no hok cs).2]
          rintro _ w4 ⟨rfl, hC4, ho4⟩
          have hD4 := hD3.only ho4 (by omega)
          have R4 := R3.trans (ho4.below hg)
          clear hD3 hC3 ho4 R3
          go_wp2_with fail
          refine (diff_like g d cs _ hC4 hD4 hlen).mono ?_
          rintro _ w5 ⟨rfl, _, hb5⟩
          have R5 := R4.trans (hb5.mono R4.size)
          go_wp2
          go_ret
          exact ⟨rfl, R5⟩

set_option maxRecDepth 100000 in
set_option maxHeartbeats 4000000 in
theorem chunkFills_in (p : Option Addr) (n cap : Nat) (l : List Op4) (A H : Nat) (k : Int) (w : World) (hO : Ops w p n l) (hH : H < 128) (hAH : A ≤ H) (k0 : 0 ≤ k) (k1 : k ≤ 16) :
    Calls Try.prog 4 #[.slice p n cap, .int .i64 (A : Int), .int .i64 (H : Int), .int .i64 k] w fun e w' => e = .returned (.bool true) ∧ Below w.heap.size w w' := by
  have n0 : ¬ (A : Int) < 0 := by omega
  have n1 : ¬ (128 : Int) ≤ H := by omega
  have n2 : ¬ (H : Int) < A := by omega
  have n3 : ¬ k < 0 := by omega
  have n4 : ¬ 16 < k := by omega
  by_cases h8 : (8 : Int) < (H : Int) - A
  · go_enter Try.func4, Try.ntmps4
    go_wp2_with fail
    refine (awake_c w).mono ?_
    rintro _ w1 ⟨rfl, hb1⟩
    go_wp2_with fail
    refine (plays_c p n cap l w1 (hO.on hb1)).mono ?_
    rintro _ w2 ⟨rfl, hC, hR, hb2⟩
    have R2 := hb1.trans (hb2.mono hb1.size)
    have hlen := playTo_length l (min n 400)
    have hkin := playTo_kinds l (min n 400)
    have hg : w.heap.size ≤ w1.heap.size := hb1.size
    have hgl : w1.heap.size < w2.heap.size := hC.lt
    have hrl : w1.heap.size + 1 < w2.heap.size := hR.lt
    generalize playTo l (min n 400) = cs at *
    clear hb1 hb2
    generalize w1.heap.size = g at *
    go_wp2_with fail
    refine (copy_c g cs _ hC hlen).mono ?_
    rintro _ w3 ⟨rfl, e3⟩
    have hD3 : Blk w3 w2.heap.size 51 cs := by rw [e3]; exact Blk.new w2 51 cs
    have hb3 : Below w2.heap.size w2 w3 := by rw [e3]; exact (Below.refl _ _).alloc (Nat.le_refl _) _
    have hC3 := hC.below hb3 hgl
    have R3 := R2.trans (hb3.mono R2.size)
    clear e3 hb3 hC hR R2
    generalize w2.heap.size = d at *
    go_wp2_with fail
    refine (fill_c g cs A H k _ hC3 hlen).mono ?_
    rw [(okFill_yes (by omega) cs).1]
    rintro _ w4 ⟨rfl, hC4, ho4⟩
    have R4 := R3.trans (ho4.below hg)
    clear hD3 hC3 ho4 R3 hC4
    go_wp2
    go_ret
    exact ⟨rfl, R4⟩
  · obtain ⟨S, hS⟩ : ∃ S : Nat, S = A * 256 := ⟨_, rfl⟩
    obtain ⟨N, hN⟩ : ∃ N : Nat, N = (H + 1 - A) * 256 := ⟨_, rfl⟩
    have hE : ((H : Int) + 1) * 256 = ((S + N : Nat) : Int) := by omega
    have hS' : (A : Int) * 256 = (S : Int) := by omega
    have hSN : S + N ≤ 32768 := by omega
    go_enter Try.func4, Try.ntmps4
    go_wp2_with fail
    refine (awake_c w).mono ?_
    rintro _ w1 ⟨rfl, hb1⟩
    go_wp2_with fail
    refine (plays_c p n cap l w1 (hO.on hb1)).mono ?_
    rintro _ w2 ⟨rfl, hC, hR, hb2⟩
    have R2 := hb1.trans (hb2.mono hb1.size)
    have hlen := playTo_length l (min n 400)
    have hkin := playTo_kinds l (min n 400)
    have hg : w.heap.size ≤ w1.heap.size := hb1.size
    have hgl : w1.heap.size < w2.heap.size := hC.lt
    have hrl : w1.heap.size + 1 < w2.heap.size := hR.lt
    generalize playTo l (min n 400) = cs at *
    clear hb1 hb2
    generalize w1.heap.size = g at *
    go_wp2_with fail
    refine (copy_c g cs _ hC hlen).mono ?_
    rintro _ w3 ⟨rfl, e3⟩
    have hD3 : Blk w3 w2.heap.size 51 cs := by rw [e3]; exact Blk.new w2 51 cs
    have hb3 : Below w2.heap.size w2 w3 := by rw [e3]; exact (Below.refl _ _).alloc (Nat.le_refl _) _
    have hC3 := hC.below hb3 hgl
    have R3 := R2.trans (hb3.mono R2.size)
    clear e3 hb3 hC hR R2
    generalize w2.heap.size = d at *
    go_wp2_with fail
    refine (fill_c g cs A H k _ hC3 hlen).mono ?_
    rw [(okFill_yes (by omega) cs).1, (okFill_yes (by omega) cs).2, Int.toNat_natCast, Int.toNat_natCast, ← hS, ← hN]
    rintro _ w4 ⟨rfl, hC4, ho4⟩
    have hD4 := hD3.only ho4 (by omega)
    have R4 := R3.trans (ho4.below hg)
    clear hD3 hC3 ho4 R3 hS hN
    go_upto_region 9 with fail
    go_cut [57] (fun v wc => v = .bool false ∧ wc = w4)
    case first =>
      go_wp2
      go_meet
      case rel => exact ⟨congrArg Value.bool (by simp; omega), rfl⟩
    case rest =>
    obtain ⟨rfl, hwc⟩ := hcut
    replace hwc := hwc.symm
    subst hwc
    go_upto_region 11 with fail
    go_cut [70] (fun v wc => v = .bool false ∧ wc = w4)
    case first =>
      go_wp2
      go_meet
      case rel => exact ⟨congrArg Value.bool (by simp; omega), rfl⟩
    case rest =>
    obtain ⟨rfl, hwc⟩ := hcut
    replace hwc := hwc.symm
    subst hwc
    go_wp2
    go_loopw [15] (fun i wr => ∃ m : Nat, m ≤ N ∧ i = .int .i64 ((S + m : Nat) : Int) ∧ Blk wr d 51 (filTo cs S k m) ∧ Blk wr g 51 (filTo cs S k N) ∧ Below w.heap.size w wr) (fun i _ => 32768 - (intOf i).toNat)
    case atStart => exact ⟨0, Nat.zero_le _, by simp, hD4, hC4, R4⟩
    case round =>
      obtain ⟨m, hm, rfl, hD5, hC5, R5⟩ := hrel
      clear hD4 hC4 R4
      by_cases hlt : m < N
      · have hlt' : ((S + m : Nat) : Int) < ((S + N : Nat) : Int) := by omega
        have hlm : S + m < 32768 := by omega
        have hlf : (filTo cs S k m).length = 32768 := by rw [filTo_length, hlen]
        have hset := set_c d (filTo cs S k m) ((S + m : Nat) : Int) k wr hD5 hlf
        rw [(okSet_yes (by omega) (filTo cs S k m)).1, (okSet_yes (by omega) (filTo cs S k m)).2, Int.toNat_natCast, show (filTo cs S k m).set (S + m) k = filTo cs S k (m + 1) from rfl] at hset
        go_wp2_with fail
        refine hset.mono ?_
        clear hset
        rintro _ w6 ⟨rfl, hD6, ho6⟩
        have hC6 := hC5.only ho6 (by omega)
        have R6 := R5.trans (ho6.below (by omega))
        clear hD5 hC5 R5 ho6 hlf
        go_wp2
        go_roundw
        case rel => exact ⟨m + 1, by omega, by go_num, hD6, hC6, R6⟩
        case measure => simp [intOf]; omega
      · obtain rfl : m = N := by omega
        have hlf : (filTo cs S k m).length = 32768 := by rw [filTo_length, hlen]
        go_wp2_with fail
        refine (diff_like g d _ _ hC5 hD5 hlf).mono ?_
        rintro _ w6 ⟨rfl, _, hb6⟩
        have R6 := R5.trans (hb6.mono R5.size)
        go_wp2
        go_ret
        exact ⟨rfl, R6⟩
theorem chunkFills_walk (p : Option Addr) (n cap : Nat) (l : List Op4) (a b k : Int) (w : World) (hO : Ops w p n l) :
    Calls Try.prog 4 #[.slice p n cap, .int .i64 a, .int .i64 b, .int .i64 k] w fun e w' => e = .returned (.bool true) ∧ Below w.heap.size w w' := by
  by_cases hok : 0 ≤ a ∧ b < 128 ∧ a ≤ b ∧ 0 ≤ k ∧ k ≤ 16
  · obtain ⟨h0, h1, h2, h3, h4⟩ := hok
    obtain ⟨A, rfl⟩ := Int.eq_ofNat_of_zero_le h0
    obtain ⟨H, rfl⟩ := Int.eq_ofNat_of_zero_le (show 0 ≤ b by omega)
    exact chunkFills_in p n cap l A H k w hO (by omega) (by omega) h3 h4
  · exact chunkFills_bad p n cap l a b k w hO hok

set_option maxRecDepth 100000 in
theorem chunkFills_lifted (os : Os) (started : os.Started) (H : Type) (enc : TypeId × Value → H) :
    ReturnsInHanded {} Try.checked os 4 .any (Rows.chunkFillsSpec.pre6 enc Try.prog Try.f4 Rows.chunkFillsRow.domain false) (Rows.chunkFillsSpec.post enc Try.prog Try.f4 false true false false) := by
  refine returnsInHanded_of_change (C := Try.checked) own started (by kernel_rfl) Try.func4
    (ChangeSpec.witness6 (enc := enc) (C := Try.checked) false ⟨#[], #[.slice none 0 0, .int .i64 0, .int .i64 0, .int .i64 0], []⟩ 8 (by kernel_rfl) (by kernel_rfl) (by kernel_rfl) (by kernel_rfl)) ?_
  intro W base args ds gs before hval0 hW _ _
  have hval : ∀ (j : Nat) t v, Try.f4.params[j]? = some t → args[j]? = some v → Value.okWide Try.prog W .any base t v := hval0
  have hW' := hW
  obtain ⟨p, q, hA0, hV, rfl, hfz, hnd⟩ := hW
  have hA : DataW.TrodAll enc Try.prog W 0 (fun _ => true) true Try.f4.params.toList args.toList ds p := hA0
  rw [Try.params4] at hA hval
  obtain ⟨v0, vs0, d0, ds0, p0, q0, hargs, rfl, rfl, h0, r0⟩ := trodAll_cons hA
  obtain ⟨v1, vs1, d1, ds1, p1, q1, rfl, rfl, rfl, h1, r1⟩ := trodAll_cons r0
  obtain ⟨v2, vs2, d2, ds2, p2, q2, rfl, rfl, rfl, h2, r2⟩ := trodAll_cons r1
  obtain ⟨v3, vs3, d3, ds3, p3, q3, rfl, rfl, rfl, h3, r3⟩ := trodAll_cons r2
  obtain ⟨rfl, rfl, rfl⟩ := trodAll_nil r3
  obtain rfl : args = #[v0, v1, v2, v3] := by cases args; simp_all
  obtain ⟨rfl, rfl⟩ := trodVars_none hV
  obtain ⟨a_l, len_l, cap_l, rfl⟩ := okWide_slice Try.underlying22 (hval 0 22 v0 rfl rfl)
  have lt0 : ∀ x ∈ p0, x.block < W.heap.size := by obtain ⟨m, hm⟩ := h0; exact DataW.trod_lt m _ _ _ hm
  obtain ⟨l_l, O_l⟩ := open_ops h0
  obtain ⟨a, rfl, rfl, rfl, w_a⟩ := open_int Try.underlying3 (hval 1 3 v1 rfl rfl) h1
  obtain ⟨b, rfl, rfl, rfl, w_b⟩ := open_int Try.underlying3 (hval 2 3 v2 rfl rfl) h2
  obtain ⟨k, rfl, rfl, rfl, w_k⟩ := open_int Try.underlying3 (hval 3 3 v3 rfl rfl) h3
  clear hA0 hval0
  refine (chunkFills_walk a_l len_l cap_l l_l a b k W O_l).mono fun e W' ⟨he, bel⟩ => ?_
  subst he
  exact ⟨_, rfl, _, _, _, [], _, [], hW', trodAll_mk1 (shut_bool Try.underlying4 _), (trodAll_cons_mk (Below.trod laidOut (by kernel_rfl) (of_decide_eq_true (by kernel_rfl)) h0 bel lt0) (trodAll_cons_mk (shut_int Try.underlying3 w_a) (trodAll_cons_mk (shut_int Try.underlying3 w_b) (trodAll_cons_mk (shut_int Try.underlying3 w_k) trodAll_mk0)))), rfl, bel.frame _, fun h => by cases h⟩

theorem chunkFills_holds : Rows.ChunkFillsSaid :=
  OpenClaim.holds_of_wide 4 Try.f4 rfl rfl rfl rfl rfl rfl rfl ⟨rfl, rfl, rfl, rfl, rfl⟩ rfl rfl rfl rfl rfl (by kernel_rfl) Try.func4 (by kernel_rfl)
    (of_decide_eq_true (by kernel_rfl)) (by unfold Func.isWrapper; rw [if_neg (of_decide_eq_false (by kernel_rfl))]; exact ⟨rfl, rfl⟩)
    (fun os started H enc _ => chunkFills_lifted os started H enc)
#print axioms chunkFills_holds
end Go.Proofs.Ytdmogocnagbobab
