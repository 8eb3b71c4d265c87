/-
  The document's space: Room and Largest.
-/
import Derived.Test.YtffhnecdmdmmkaaSspans
set_option maxRecDepth 20000
namespace Go.Proofs.Ytffhnecdmdmmkaa
open Go.RowKit

theorem OwnSp.at {w : World} {lo : Nat} {a : Option Addr} {c : Nat} {l : List Sp} (h : OwnSp w lo a c l) {k : Nat} (hk : k < l.length) : ∃ gb, a = some ⟨gb, 0, none⟩ ∧ lo ≤ gb ∧ gb < w.heap.size ∧ w.cell? ⟨gb, k * 2, none⟩ = some (.int .i64 (l[k].1 : Int)) ∧ w.cell? ⟨gb, k * 2 + 1, none⟩ = some (.int .i64 (l[k].2 : Int)) := by
  unfold OwnSp at h
  obtain ⟨gb, rfl⟩ : ∃ gb, a = some ⟨gb, 0, none⟩ := by
    rcases h.2 with ⟨_, h0⟩ | ⟨gb, _, _, hv, _⟩
    · omega
    · simp only [Value.slice.injEq] at hv
      exact ⟨gb, hv.1⟩
  have hcl := spCells_at l k hk
  have hlt := h.lt gb rfl
  exact ⟨gb, rfl, hlt.1, hlt.2, by rw [h.cellAt (k * 2) (by omega)]; exact hcl.1, by rw [h.cellAt (k * 2 + 1) (by omega)]; exact hcl.2⟩
theorem sp_bd {h : Nat} {T : List Bool} (hh : h ≤ T.length) (hf : T.length ≤ 4096) : (spansS h T).length ≤ 4096 ∧ (∀ x ∈ spansS h T, x.1 ≤ 4096 ∧ x.2 ≤ 4096) ∧ roomS (spansS h T) ≤ 4096 := by
  refine ⟨?_, fun x hx => ?_, ?_⟩
  · have := spTo_len h T (T.length - h)
    unfold spansS
    omega
  · have := (spans_is hh).ins x hx
    omega
  · rw [room_is hh]
    have := List.count_le_length (a := false) (l := T.drop h)
    rw [List.length_drop] at this
    omega
theorem room_next {l : List Sp} {k : Nat} (h : k < l.length) : roomS (l.take (k + 1)) = roomS (l.take k) + l[k].2 := by
  rw [List.take_succ_eq_append_getElem h]
  simp only [roomS, List.map_append, List.map_cons, List.map_nil, List.sum_append, List.sum_cons, List.sum_nil]
  omega
theorem room_le (l : List Sp) (k : Nat) : roomS (l.take k) ≤ roomS l := by
  conv => rhs; rw [← List.take_append_drop k l]
  simp only [roomS, List.map_append, List.sum_append]
  omega
theorem large_next {l : List Sp} {k : Nat} (h : k < l.length) : largeS (l.take (k + 1)) = max (largeS (l.take k)) l[k].2 := by
  rw [List.take_succ_eq_append_getElem h]
  unfold largeS
  rw [List.foldl_append]
  rfl
set_option maxHeartbeats 1000000 in
theorem rroom_c (g tb h : Nat) (T : List Bool) (w : World) (H : RS w g tb h T) : Calls Try.prog 12 #[.pointer (some ⟨g, 0, none⟩)] w fun e w' => e = .returned (.int .i64 (roomS (spansS h T) : Int)) ∧ Below w.heap.size w w' := by
  obtain ⟨Post, hPost⟩ : ∃ Post : Ending → World → Prop, Post = fun e w' => e = .returned (.int .i64 (roomS (spansS h T) : Int)) ∧ Below w.heap.size w w' := ⟨_, rfl⟩
  rw [← hPost]
  have HP : Hid (∀ w', Below w.heap.size w w' → Post (.returned (.int .i64 (roomS (spansS h T) : Int))) w') := fun w' h2 => by rw [hPost]; exact ⟨rfl, h2⟩
  clear hPost
  obtain ⟨hb1, hb2, hb3⟩ := sp_bd H.le H.few
  have HR : Hid (RS w g tb h T) := H
  clear H
  go_enter Try.func12, Try.ntmps12
  go_wp2_with fail
  refine (rspans_c g tb h T w HR.out).mono ?_
  rintro _ w1 ⟨hbw, a, c, rfl, hO⟩
  have HO : Hid (OwnSp w1 w.heap.size a c (spansS h T)) := hO
  have R := HP.out w1 hbw
  have Hle : Hid (∀ k, roomS ((spansS h T).take k) ≤ roomS (spansS h T)) := room_le _
  clear HP hO HR hbw
  generalize spansS h T = L at *
  obtain ⟨n, hn⟩ : ∃ n, n = L.length := ⟨_, rfl⟩
  have Hn : Hid (L.length = n) := hn.symm
  rw [← hn] at hb1 ⊢
  clear hn
  go_wp2_with fail
  go_loop [4, 5] (fun v4 v5 => ∃ k : Nat, k ≤ n ∧ v5 = .int .i64 (k : Int) ∧ v4 = .int .i64 (roomS (L.take k) : Int)) (fun _ v5 => n - (intOf v5).toNat)
  case atStart => exact ⟨0, Nat.zero_le _, rfl, by simp [roomS]⟩
  case round =>
    obtain ⟨k, hk, rfl, rfl⟩ := hrel
    have hrk := Hle.out k
    by_cases hlt : k < n
    · have hlt' : (k : Int) < n := by omega
      have hkl : k < L.length := by rw [Hn.out]; exact hlt
      obtain ⟨gb, rfl, _, _, cx, cm⟩ := HO.out.at hkl
      clear cx
      have hx := (hb2 _ (List.getElem_mem hkl)).2
      have Hnx : Hid (roomS (L.take (k + 1)) = roomS (L.take k) + L[k].2) := room_next hkl
      generalize L[k].2 = mm at *
      generalize roomS (L.take k) = r at *
      generalize roomS L = rl at *
      clear R
      go_wp2
      go_round
      case rel => exact ⟨k + 1, by omega, by go_num, by rw [Hnx.out]; go_num⟩
      case measure => simp [intOf]; omega
    · obtain rfl : k = n := by omega
      have e : L.take k = L := List.take_of_length_le (by rw [Hn.out]; exact Nat.le_refl _)
      rw [e]
      clear e Hle hrk
      generalize roomS L = rl at *
      go_wp2
      exact R
set_option maxHeartbeats 1000000 in
theorem rlarge_c (g tb h : Nat) (T : List Bool) (w : World) (H : RS w g tb h T) : Calls Try.prog 22 #[.pointer (some ⟨g, 0, none⟩)] w fun e w' => e = .returned (.int .i64 (largeS (spansS h T) : Int)) ∧ Below w.heap.size w w' := by
  obtain ⟨Post, hPost⟩ : ∃ Post : Ending → World → Prop, Post = fun e w' => e = .returned (.int .i64 (largeS (spansS h T) : Int)) ∧ Below w.heap.size w w' := ⟨_, rfl⟩
  rw [← hPost]
  have HP : Hid (∀ w', Below w.heap.size w w' → Post (.returned (.int .i64 (largeS (spansS h T) : Int))) w') := fun w' h2 => by rw [hPost]; exact ⟨rfl, h2⟩
  clear hPost
  obtain ⟨hb1, hb2, _⟩ := sp_bd H.le H.few
  have HR : Hid (RS w g tb h T) := H
  clear H
  go_enter Try.func22, Try.ntmps22
  go_wp2_with fail
  refine (rspans_c g tb h T w HR.out).mono ?_
  rintro _ w1 ⟨hbw, a, c, rfl, hO⟩
  have HO : Hid (OwnSp w1 w.heap.size a c (spansS h T)) := hO
  have R := HP.out w1 hbw
  clear HP hO HR hbw
  generalize spansS h T = L at *
  obtain ⟨n, hn⟩ : ∃ n, n = L.length := ⟨_, rfl⟩
  have Hn : Hid (L.length = n) := hn.symm
  rw [← hn] at hb1 ⊢
  clear hn
  go_wp2_with fail
  go_loop [4, 5] (fun v4 v5 => ∃ k : Nat, k ≤ n ∧ v5 = .int .i64 (k : Int) ∧ v4 = .int .i64 (largeS (L.take k) : Int)) (fun _ v5 => n - (intOf v5).toNat)
  case atStart => exact ⟨0, Nat.zero_le _, rfl, rfl⟩
  case round =>
    obtain ⟨k, hk, rfl, rfl⟩ := hrel
    by_cases hlt : k < n
    · have hlt' : (k : Int) < n := by omega
      have hkl : k < L.length := by rw [Hn.out]; exact hlt
      obtain ⟨gb, rfl, _, _, cx, cm⟩ := HO.out.at hkl
      clear cx
      have hx := (hb2 _ (List.getElem_mem hkl)).2
      have Hnx : Hid (largeS (L.take (k + 1)) = max (largeS (L.take k)) L[k].2) := large_next hkl
      generalize L[k].2 = mm at *
      generalize largeS (L.take k) = r at *
      clear R
      by_cases hgt : (r : Int) < mm
      · go_wp2
        go_round
        case rel => exact ⟨k + 1, by omega, by go_num, by rw [Hnx.out, Nat.max_eq_right (by omega)]⟩
        case measure => simp [intOf]; omega
      · go_wp2
        go_round
        case rel => exact ⟨k + 1, by omega, by go_num, by rw [Hnx.out, Nat.max_eq_left (by omega)]⟩
        case measure => simp [intOf]; omega
    · obtain rfl : k = n := by omega
      have e : L.take k = L := List.take_of_length_le (by rw [Hn.out]; exact Nat.le_refl _)
      rw [e]
      clear e
      generalize largeS L = rl at *
      go_wp2
      exact R
end Go.Proofs.Ytffhnecdmdmmkaa
