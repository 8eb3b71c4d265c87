/-
  plays: a chunk and its cells behind some calls: both have the same cells.
-/
import Derived.Test.YtdmogocnagbobaaFills
import Derived.Test.YtdmogocnagbobaaLays
import Derived.Test.YtdmogocnagbobaaDiffs
import Derived.Deep.RegionHeld3
namespace Go.Proofs.Ytdmogocnagbobaa
open Go.RowKit

/-- A call: its kind and its three numbers. -/
structure Op4 where
  d : Int
  a : Int
  b : Int
  k : Int
/-- The calls lie in a slice. -/
structure Ops (w : World) (p : Option Addr) (n : Nat) (l : List Op4) : Prop where
  len : l.length = n
  at' : ∀ k, k < n → ∃ b o x, p = some ⟨b, o, none⟩ ∧ b < w.heap.size ∧ l[k]? = some x ∧ w.cell? ⟨b, o + k * 4, none⟩ = some (.int .i64 x.d) ∧ w.cell? ⟨b, o + k * 4 + 1, none⟩ = some (.int .i64 x.a) ∧
    w.cell? ⟨b, o + k * 4 + 2, none⟩ = some (.int .i64 x.b) ∧ w.cell? ⟨b, o + k * 4 + 3, none⟩ = some (.int .i64 x.k)
theorem Ops.on {w w' : World} {p : Option Addr} {n : Nat} {l : List Op4} (h : Ops w p n l) (hb : Below w.heap.size w w') : Ops w' p n l := by
  refine ⟨h.len, fun k hk => ?_⟩
  obtain ⟨b, o, x, e, hlt, hx, c0, c1, c2, c3⟩ := h.at' k hk
  exact ⟨b, o, x, e, Nat.lt_of_lt_of_le hlt hb.size, hx, (hb.cell (p := ⟨b, _, none⟩) hlt).trans c0, (hb.cell (p := ⟨b, _, none⟩) hlt).trans c1, (hb.cell (p := ⟨b, _, none⟩) hlt).trans c2, (hb.cell (p := ⟨b, _, none⟩) hlt).trans c3⟩
def act (cs : List Int) (x : Op4) : List Int := if x.d = 1 then filC cs x.a x.b x.k else setC cs x.a x.k
/-- The cells behind the first n calls. -/
def playTo (l : List Op4) : Nat → List Int
  | 0 => List.replicate 32768 0
  | n + 1 => match l[n]? with | some x => act (playTo l n) x | none => playTo l n
theorem act_length (cs : List Int) (x : Op4) : (act cs x).length = cs.length := by unfold act; split <;> simp [filC_length, setC_length]
theorem playTo_length (l : List Op4) : ∀ n, (playTo l n).length = 32768
  | 0 => List.length_replicate
  | n + 1 => by unfold playTo; split <;> simp [act_length, playTo_length l n]
theorem Kinds.set {cs : List Int} (h : Kinds cs) (n : Nat) {k : Int} (h0 : 0 ≤ k) (h1 : k ≤ 16) : Kinds (cs.set n k) := by
  intro x hx
  rcases List.mem_or_eq_of_mem_set hx with h' | h'
  · exact h x h'
  · subst h'; exact ⟨h0, h1⟩
theorem Kinds.fil {cs : List Int} (h : Kinds cs) (a : Nat) {k : Int} (h0 : 0 ≤ k) (h1 : k ≤ 16) : ∀ n, Kinds (filTo cs a k n)
  | 0 => h
  | n + 1 => (Kinds.fil h a h0 h1 n).set (a + n) h0 h1
theorem Kinds.act {cs : List Int} (h : Kinds cs) (x : Op4) : Kinds (act cs x) := by
  unfold Ytdmogocnagbobaa.act
  split
  · unfold filC
    split
    · rename_i hk
      have := of_decide_eq_true hk
      exact h.fil _ (by omega) (by omega) _
    · exact h
  · unfold setC
    split
    · rename_i hk
      have := of_decide_eq_true hk
      exact h.set _ (by omega) (by omega)
    · exact h
theorem playTo_kinds (l : List Op4) : ∀ n, Kinds (playTo l n)
  | 0 => fun x hx => by rw [List.eq_of_mem_replicate hx]; omega
  | n + 1 => by unfold playTo; split; exact (playTo_kinds l n).act _; exact playTo_kinds l n

theorem Only.cell' {g : Nat} {w w' : World} (h : Only g w w') {b j : Nat} {v : Value} (hc : w.cell? ⟨b, j, none⟩ = some v) (hb : b ≠ g) : w'.cell? ⟨b, j, none⟩ = some v := by
  simp only [World.cell?, h.block b hb] at hc ⊢
  exact hc
theorem below_two' {B : Nat} {w : World} (o : Obj) (h : B ≤ w.heap.size) : Below B w (w.alloc o) := (Below.refl _ _).alloc h _

set_option maxRecDepth 100000 in
set_option maxHeartbeats 4000000 in
theorem plays_c (p : Option Addr) (n cap : Nat) (l : List Op4) (w : World) (hO : Ops w p n l) :
    Calls Try.prog 10 #[.slice p n cap] w fun e w' => e = .returned (.tuple #[.pointer (some ⟨w.heap.size, 0, none⟩), .slice (some ⟨w.heap.size + 1, 0, none⟩) 32768 32768, .bool true]) ∧
      Blk w' w.heap.size 59 (playTo l (min n 400)) ∧ Blk w' (w.heap.size + 1) 5 (playTo l (min n 400)) ∧ Below w.heap.size w w' := by
  go_enter Try.func10, Try.ntmps10
  go_wp2_with fail
  refine (new_c w).mono ?_
  rintro _ w1 ⟨rfl, e1⟩
  have hC1 : Blk w1 w.heap.size 59 (playTo l 0) := by rw [e1]; exact Blk.new w 59 _
  have hb1 : Below w.heap.size w w1 := by rw [e1]; exact below_two' _ (Nat.le_refl _)
  have hs1 : w1.heap.size = w.heap.size + 1 := by rw [e1, World.size_alloc]
  clear e1
  go_wp2_with fail
  refine (rnew_c 0 (by omega) (by omega) w1).mono ?_
  rintro _ w2 ⟨rfl, hR2, hb2⟩
  have hC2 : Blk w2 w.heap.size 59 (playTo l 0) := hC1.below hb2 (by omega)
  have HB2 : Below w.heap.size w w2 := hb1.trans (hb2.mono (by omega))
  rw [hs1] at hR2 ⊢
  clear hC1 hb1 hb2 hs1 w1
  go_wp2
  go_loopw [7] (fun i wr => ∃ k : Nat, k ≤ min n 400 ∧ i = .int .i64 k ∧ Blk wr w.heap.size 59 (playTo l k) ∧ Blk wr (w.heap.size + 1) 5 (playTo l k) ∧ Below w.heap.size w wr) (fun i _ => 400 - (intOf i).toNat)
  case atStart => exact ⟨0, Nat.zero_le _, rfl, hC2, hR2, HB2⟩
  case round =>
    obtain ⟨k, hk, rfl, hC, hR, hb⟩ := hrel
    by_cases hlt : k < n ∧ k < 400
    · obtain ⟨hn, h4⟩ := hlt
      obtain ⟨b, o, x, rfl, hbl, hx, c0, c1, c2, c3⟩ := (hO.on hb).at' k hn
      have hbw : b < w.heap.size := by
        obtain ⟨b', o', _, e, h', _⟩ := hO.at' k hn
        cases e
        exact h'
      have hn' : (k : Int) < n := by omega
      have h4' : (k : Int) < 400 := by omega
      have hlen := playTo_length l k
      have HS : Hid (playTo l (k + 1) = act (playTo l k) x) := by show playTo l (k + 1) = _; rw [show playTo l (k + 1) = (match l[k]? with | some x => act (playTo l k) x | none => playTo l k) from rfl, hx]
      generalize playTo l k = cs at *
      by_cases hd : x.d = 1
      · rw [hd] at c0
        have HS' : Hid (playTo l (k + 1) = filC cs x.a x.b x.k) := by show _ = _; rw [HS.out]; unfold act; rw [if_pos hd]
        clear HS
        obtain ⟨d, xa, xb, xk⟩ := x
        simp only at *
        go_wp2_with fail
        go_region_held3 (fun w' => w'.cell? ⟨b, o + k * 4 + 1, none⟩ = some (.int .i64 xa) ∧ w'.cell? ⟨b, o + k * 4 + 2, none⟩ = some (.int .i64 xb) ∧ w'.cell? ⟨b, o + k * 4 + 3, none⟩ = some (.int .i64 xk)) (go_keep)
          ((first | (go_at_call 22; refine (fill_c _ cs _ _ _ _ (by exact hC) hlen).mono ?_; rintro e w5 ⟨rfl, hC5, ho5⟩; have q1 : w5.cell? ⟨b, o + k * 4 + 1, none⟩ = some (.int .i64 xa) := ho5.cell' (by exact c1) (by omega); have q2 : w5.cell? ⟨b, o + k * 4 + 2, none⟩ = some (.int .i64 xb) := ho5.cell' (by exact c2) (by omega); have q3 : w5.cell? ⟨b, o + k * 4 + 3, none⟩ = some (.int .i64 xk) := ho5.cell' (by exact c3) (by omega)) | (go_at_call 23; refine (rfill_c _ cs _ _ _ _ (Blk.only (by exact hR) ho5 (by omega)) hlen).mono ?_; rintro e w6 ⟨rfl, hR6, ho6⟩; have r1 : w6.cell? ⟨b, o + k * 4 + 1, none⟩ = some (.int .i64 xa) := ho6.cell' (by exact q1) (by omega); have r2 : w6.cell? ⟨b, o + k * 4 + 2, none⟩ = some (.int .i64 xb) := ho6.cell' (by exact q2) (by omega); have r3 : w6.cell? ⟨b, o + k * 4 + 3, none⟩ = some (.int .i64 xk) := ho6.cell' (by exact q3) (by omega))))
        have R1 : Blk w6 w.heap.size 59 (playTo l (k + 1)) := by rw [HS'.out]; exact hC5.only ho6 (by omega)
        have R2 : Blk w6 (w.heap.size + 1) 5 (playTo l (k + 1)) := by rw [HS'.out]; exact hR6
        have R3 : Below w.heap.size w w6 := (hb.drew.trans (ho5.below (Nat.le_refl _))).trans (ho6.below (Nat.le_succ _))
        clear hC5 hR6 ho5 ho6 hC hR hb q1 q2 q3 r1 r2 r3 c0 c1 c2 c3
        go_wp2
        go_roundw
        case rel => exact ⟨k + 1, by omega, by go_num, R1, R2, R3⟩
        case measure => simp [intOf]; omega
      · have HS' : Hid (playTo l (k + 1) = setC cs x.a x.k) := by show _ = _; rw [HS.out]; unfold act; rw [if_neg hd]
        clear HS
        obtain ⟨d, xa, xb, xk⟩ := x
        simp only at *
        have hd' : (d == 1) = false := by simp [hd]
        go_wp2_with fail
        go_region_held3 (fun w' => w'.cell? ⟨b, o + k * 4 + 1, none⟩ = some (.int .i64 xa) ∧ w'.cell? ⟨b, o + k * 4 + 3, none⟩ = some (.int .i64 xk)) (go_keep)
          ((first | (go_at_call 24; refine (set_c _ cs _ _ _ (by exact hC) hlen).mono ?_; rintro e w5 ⟨rfl, hC5, ho5⟩; have q1 : w5.cell? ⟨b, o + k * 4 + 1, none⟩ = some (.int .i64 xa) := ho5.cell' (by exact c1) (by omega); have q3 : w5.cell? ⟨b, o + k * 4 + 3, none⟩ = some (.int .i64 xk) := ho5.cell' (by exact c3) (by omega)) | (go_at_call 25; refine (rset_c _ cs _ _ _ (Blk.only (by exact hR) ho5 (by omega)) hlen).mono ?_; rintro e w6 ⟨rfl, hR6, ho6⟩; have r1 : w6.cell? ⟨b, o + k * 4 + 1, none⟩ = some (.int .i64 xa) := ho6.cell' (by exact q1) (by omega); have r3 : w6.cell? ⟨b, o + k * 4 + 3, none⟩ = some (.int .i64 xk) := ho6.cell' (by exact q3) (by omega))))
        have R1 : Blk w6 w.heap.size 59 (playTo l (k + 1)) := by rw [HS'.out]; exact hC5.only ho6 (by omega)
        have R2 : Blk w6 (w.heap.size + 1) 5 (playTo l (k + 1)) := by rw [HS'.out]; exact hR6
        have R3 : Below w.heap.size w w6 := (hb.drew.trans (ho5.below (Nat.le_refl _))).trans (ho6.below (Nat.le_succ _))
        clear hC5 hR6 ho5 ho6 hC hR hb q1 q3 r1 r3 c0 c1 c2 c3
        go_wp2
        go_roundw
        case rel => exact ⟨k + 1, by omega, by go_num, R1, R2, R3⟩
        case measure => simp [intOf]; omega
    · by_cases h4 : k < n
      · have e4 : k = 400 := by omega
        have em : min n 400 = 400 := by omega
        subst e4
        have h4' : ((400 : Nat) : Int) < n := by omega
        go_wp2
        go_ret3
        exact ⟨rfl, by rw [em]; exact hC, by rw [em]; exact hR, hb⟩
      · have e4 : k = n := by omega
        subst e4
        have em : min k 400 = k := by omega
        go_wp2
        go_ret3
        exact ⟨rfl, by rw [em]; exact hC, by rw [em]; exact hR, hb⟩
end Go.Proofs.Ytdmogocnagbobaa
