/-
  The document's overlay: Final and Many.
-/
import Derived.Test.YthanmgejgmhccaaRf
set_option maxRecDepth 20000
namespace Go.Proofs.Ythanmgejgmhccaa
open C Go.RowKit Go.Shelf

theorem finK_kind {E G : List Int} (h : Sp E G) (j : Nat) : 0 ≤ finK E G j ∧ finK E G j ≤ 16 := by
  have a := h.ek.at j
  have b := h.gk.at j
  unfold finK
  split <;> omega
theorem Rv.getI {B : Nat} {w : World} {r a ac b bc : Nat} {E G : List Int} {d : Bool} (h : Rv B w r a ac b bc E G d) (n : Nat) (hn : n < 32768) : Calls Try.prog 14 #[.pointer (some ⟨r, 0, none⟩), .int .i64 n] w fun e w' => e = .returned (.int .i64 (finK E G n)) ∧ w' = w := by
  have := rget_c h n
  unfold getO at this
  rw [if_pos (by omega), Int.toNat_natCast] at this
  exact this
def RfinSay (E G : List Int) (w : World) (e : Ending) (w' : World) : Prop := ∃ cs, e = .returned (.slice (some ⟨w.heap.size, 0, none⟩) 32768 32768) ∧ Blk w' w.heap.size 5 cs ∧ IsFin E G cs ∧ Below w.heap.size w w'
set_option maxRecDepth 1000000 in
set_option maxHeartbeats 1000000 in
theorem rfinal_c {B : Nat} {w : World} {r a ac b bc : Nat} {E G : List Int} {d : Bool} (h : Rv B w r a ac b bc E G d) : Calls Try.prog 27 #[.pointer (some ⟨r, 0, none⟩)] w (RfinSay E G w) := by
  obtain ⟨Post, hPost⟩ : ∃ Post : Ending → World → Prop, Post = RfinSay E G w := ⟨_, rfl⟩
  rw [← hPost]
  have HP : Hid (∀ w' cs, Blk w' w.heap.size 5 cs → IsFin E G cs → Below w.heap.size w w' → Post (.returned (.slice (some ⟨w.heap.size, 0, none⟩) 32768 32768)) w') := fun w' cs h1 h2 h3 => by rw [hPost]; exact ⟨cs, rfl, h1, h2, h3⟩
  clear hPost
  have HO : Hid (Rv B w r a ac b bc E G d) := h
  have c0 := h.c0
  clear h
  have hmk := make_bytes w
  obtain ⟨Z, hZe⟩ : ∃ Z, Z = List.replicate 32768 (0 : Int) := ⟨_, rfl⟩
  have hZ : Z.length = 32768 := by rw [hZe, List.length_replicate]
  have HZk : Hid (Kinds Z) := fun x hx => by rw [hZe] at hx; rw [List.eq_of_mem_replicate hx]; omega
  rw [← hZe] at hmk
  clear hZe
  have hB1 := Blk.new w 5 Z
  have hb1 : Below w.heap.size w (w.alloc (.cells (vals Z) 5)) := (Below.refl _ _).alloc (Nat.le_refl _) _
  obtain ⟨w1, hw1⟩ : ∃ w1, w.alloc (.cells (vals Z) 5) = w1 := ⟨_, rfl⟩
  rw [hw1] at hB1 hb1 hmk
  clear hw1
  go_enter Try.func27, Try.ntmps27
  go_wp2
  go_loopw [4] (fun i wr => ∃ (n : Nat) (cs : List Int), n ≤ 32768 ∧ i = .int .i64 n ∧ Blk wr w.heap.size 5 cs ∧ cs.length = 32768 ∧ Hid (Kinds cs ∧ ∀ j, j < n → cs.getD j 0 = finK E G j) ∧ Below w.heap.size w wr) (fun i _ => 32768 - (intOf i).toNat)
  case atStart => exact ⟨0, Z, Nat.zero_le _, rfl, hB1, hZ, ⟨HZk.out, fun j hj => absurd hj (Nat.not_lt_zero _)⟩, hb1⟩
  case round =>
    obtain ⟨n, cs, hn, rfl, hB, hl, HC, hb⟩ := hrel
    clear hB1 hb1 hmk c0
    by_cases hlt : n < 32768
    · have hlt' : (n : Int) < 32768 := by omega
      have hg := (HO.out.on hb).getI n hlt
      have hK := finK_kind HO.out.sp n
      obtain ⟨K, hKe⟩ : ∃ K, finK E G n = K := ⟨_, rfl⟩
      have HK : Hid (finK E G n = K) := hKe
      rw [hKe] at hg hK
      clear hKe
      obtain ⟨k0, k1⟩ := hK
      obtain ⟨K, rfl⟩ := Int.eq_ofNat_of_zero_le k0
      have hK17 : K < 17 := by omega
      have hc := hB.cell (k := n) (by omega)
      have hf := hB.free n
      have R1 : Blk (wr.setCell ⟨w.heap.size, n, none⟩ (.int .u8 (K : Int))) w.heap.size 5 (cs.set n K) := hB.set n K
      have R2 : Below w.heap.size w (wr.setCell ⟨w.heap.size, n, none⟩ (.int .u8 (K : Int))) := hb.setCell (p := ⟨w.heap.size, n, none⟩) (Nat.le_refl _) _
      generalize cs.getD n 0 = v at hc
      clear hB hb k0 k1
      go_wp2_with fail
      refine hg.mono ?_
      clear hg
      rintro _ w2 ⟨rfl, hw⟩
      subst hw
      go_wp2
      go_roundw
      case rel =>
        refine ⟨n + 1, cs.set n K, by omega, by go_num, R1, by rw [List.length_set]; exact hl, ⟨Kinds.put HC.out.1 n (by omega) (by omega), fun j hj => ?_⟩, R2⟩
        by_cases e : n = j
        · subst e; rw [getD_set_self _ _ _ (by omega), HK.out]
        · rw [C.getD_set_ne _ _ e]; exact HC.out.2 j (by omega)
      case measure => simp [intOf]; omega
    · obtain rfl : n = 32768 := by omega
      have R := HP.out wr cs hB ⟨hl, HC.out.1, HC.out.2⟩ hb
      go_wp2
      exact R
set_option maxRecDepth 1000000 in
set_option maxHeartbeats 1000000 in
theorem rmany_c {B : Nat} {w : World} {r a ac b bc : Nat} {E G : List Int} {d : Bool} (h : Rv B w r a ac b bc E G d) : Calls Try.prog 28 #[.pointer (some ⟨r, 0, none⟩)] w fun e w' => e = .returned (.int .i64 (manyE E)) ∧ w' = w := by
  have c1 := h.c1
  have hE := h.eb
  have hl := h.sp.el
  have HM : Hid (manyE E = 32768 - cnt E 16 32768) := rfl
  have HA : Hid (∀ n, 0 ≤ cnt E 16 n ∧ cnt E 16 n ≤ n) := by
    intro n
    induction n with
    | zero => exact ⟨Int.le_refl _, Int.le_refl _⟩
    | succ n ih =>
      show 0 ≤ cnt E 16 n + (if E.getD n 0 = 16 then 1 else 0) ∧ cnt E 16 n + (if E.getD n 0 = 16 then 1 else 0) ≤ _
      split <;> constructor <;> omega
  generalize manyE E = M at *
  clear h
  go_enter Try.func28, Try.ntmps28
  go_wp2
  go_loopw [3, 4] (fun m i wr => ∃ n : Nat, n ≤ 32768 ∧ i = .int .i64 n ∧ Hid (m = .int .i64 (n - cnt E 16 n)) ∧ wr = w) (fun _ i _ => 32768 - (intOf i).toNat)
  case atStart => exact ⟨0, Nat.zero_le _, rfl, rfl, rfl⟩
  case round =>
    obtain ⟨n, hn, rfl, Hm, hw⟩ := hrel
    subst hw
    obtain ⟨T, hT⟩ : ∃ T, (n : Int) - cnt E 16 n = T := ⟨_, rfl⟩
    have hm := Hm.out
    rw [hT] at hm
    subst hm
    have HT : Hid ((n : Int) - cnt E 16 n = T) := hT
    have t0 : 0 ≤ T := by have := HA.out n; omega
    have t1 : T ≤ 32768 := by have := HA.out n; omega
    clear hT Hm
    by_cases hlt : n < 32768
    · have hlt' : (n : Int) < 32768 := by omega
      have hc := hE.cell (k := n) (by omega)
      have HS : Hid (cnt E 16 (n + 1) = cnt E 16 n + if E.getD n 0 = 16 then 1 else 0) := rfl
      generalize E.getD n 0 = v at *
      by_cases e : v = 16
      · subst e
        go_wp2
        go_roundw
        case rel =>
          refine ⟨n + 1, by omega, by go_num, ?_, trivial⟩
          have h1 := HS.out
          have h2 := HT.out
          rw [if_pos rfl] at h1
          rw [h1]
          show Value.int .i64 _ = Value.int .i64 _
          congr 1
          omega
        case measure => simp [intOf]; omega
      · have e' : (v != 16) = true := by simp [e]
        have HE : Hid (¬ v = 16) := e
        clear e
        go_wp2
        go_roundw
        case rel =>
          refine ⟨n + 1, by omega, by go_num, ?_, trivial⟩
          have h1 := HS.out
          have h2 := HT.out
          rw [if_neg HE.out] at h1
          rw [h1]
          show Value.int .i64 _ = Value.int .i64 _
          congr 1
          omega
        case measure => simp [intOf]; omega
    · obtain rfl : n = 32768 := by omega
      have e : T = M := by rw [HM.out]; exact HT.out.symm
      subst e
      go_wp2
      go_ret
      exact ⟨rfl, rfl⟩
end Go.Proofs.Ythanmgejgmhccaa
