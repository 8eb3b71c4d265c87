/-
  The document's packed numbers.
-/
import Derived.Test.YtdkihhjhjfkjjaaRpure
namespace Go.Proofs.Ytdkihhjhjfkjjaa
open Go.RowKit

set_option maxRecDepth 1000000 in
set_option maxHeartbeats 4000000 in
theorem rpacked1 (ab : Option Addr) (nb cb : Nat) (bs : List Int) (al : Option Addr) (nl cl : Nat) (l : List Int) (w : World) (hB : Bytes w ab nb bs) (hnb : nb ≤ 1000000) (hL : Bytes w al nl l) (hnl : nl ≤ 17) (hw : wid nl = 1) :
    Calls Try.prog 36 #[.slice ab nb cb, .slice al nl cl] w fun e w' => Below w.heap.size w w' ∧ (((packD l 1 bs).1 = 0 ∧ ∃ a c, e = .returned (.tuple #[.slice a 32768 c, .int .i64 0]) ∧ Own w' w.heap.size a c (packD l 1 bs).2) ∨
      ((packD l 1 bs).1 ≠ 0 ∧ e = .returned (.tuple #[.slice none 0 0, .int .i64 (packD l 1 bs).1]))) := by
  obtain ⟨D, hD⟩ : ∃ D, D = packD l 1 bs := ⟨_, rfl⟩
  rw [← hD]
  have HD : Hid (D = packD l 1 bs) := hD
  have HL : Hid (Bytes w al nl l) := hL
  have HB : Hid (Bytes w ab nb bs) := hB
  have hwid := rwidth_c nl hnl w
  rw [hw] at hwid
  have HNB : Hid (nb ≤ 1000000) := hnb
  clear hD hB hL hnb hw
  go_enter Try.func36, Try.ntmps36
  go_wp2_with fail
  refine hwid.mono ?_
  clear hwid
  rintro _ w1 ⟨rfl, hw1⟩
  rw [hw1]
  clear hw1 w1
  by_cases hs : nb < 4096
  · have hs' : (nb : Int) < 4096 := by omega
    have e : D = (3, []) := by rw [HD.out]; exact packD_short (by rw [HB.out.n]; omega)
    subst e
    clear HD HL HB HNB
    go_wp2
    go_ret2
    exact ⟨Below.refl _ _, rfl⟩
  · obtain ⟨t, rfl⟩ : ∃ t : Nat, nb = 4096 + t := ⟨nb - 4096, by omega⟩
    clear hs
    obtain ⟨L, hLe⟩ : ∃ L, L = spread 1 8 (bs.take 4096) := ⟨_, rfl⟩
    have HLe : Hid (L = spread 1 8 (bs.take 4096)) := hLe
    have HLl : Hid (L.length = 32768) := by
      show _ = _
      rw [hLe, spread_len, List.length_take, HB.out.n, Nat.min_eq_left (by omega)]
    have Hbad : Hid (∀ p ∈ L, (nl : Int) ≤ p → D = (4, [])) := fun p hp hf => by
      rw [HD.out]
      exact packD_bad (by rw [HB.out.n]; omega) (by rw [hLe] at hp; exact hp) (by rw [HL.out.n]; exact hf)
    have Hend : Hid ((∀ p ∈ L, p < nl) → D = if 4096 < 4096 + t then (2, []) else (0, L.map fun p => l.getD p.toNat 0)) := fun ha => by
      rw [HD.out, packD_end (by rw [HB.out.n]; omega) (by rw [HL.out.n]; rw [hLe] at ha; exact ha), HB.out.n, hLe]
    clear HD hLe
    go_wp2
    go_loopw [7, 8] (fun v i wr => ∃ (I : Nat) (a2 : Option Addr) (c2 : Nat), I ≤ 4096 ∧ i = .int .i64 (I : Int) ∧ v = .slice a2 (I * 8) c2 ∧ Hid (Own wr w.heap.size a2 c2 ((L.take (I * 8)).map fun p => l.getD p.toNat 0)) ∧ Hid (∀ p ∈ L.take (I * 8), p < nl) ∧ Below w.heap.size w wr ∧ w.heap.size ≤ wr.heap.size) (fun _ i _ => 4096 - (intOf i).toNat)
    case atStart => exact ⟨0, none, 0, Nat.zero_le _, rfl, rfl, (show Own _ _ _ _ _ by simpa using Own.nil w w.heap.size), (fun p hp => by simp at hp), Below.refl _ _, Nat.le_refl _⟩
    case round =>
      obtain ⟨I, a2, c2, hI, rfl, rfl, HO, Hall, hb, hsz⟩ := hrel
      by_cases hlt : I < 4096
      · have hlt' : (I : Int) < 4096 := by omega
        have hIt : (I : Int) < 4096 + (t : Int) := by omega
        obtain ⟨bb, ob, z, rfl, hcell, z0, z1, hIb, hz⟩ := (HB.out.later hb).get I (by omega)
        have HZ : Hid (digsW 1 8 z = (L.drop (I * 8)).take 8) := by
          show _ = _
          have h1 : I < (bs.take 4096).length := by rw [List.length_take]; omega
          have h2 := spread_byte 1 8 (bs.take 4096) I h1
          rw [List.getElem_take, ← hz, ← HLe.out] at h2
          exact h2
        clear hz hIb
        go_wp2
        go_loopw [7, 9, 10] (fun v x k wr => ∃ (K : Nat) (V : Int) (a3 : Option Addr) (c3 : Nat), K ≤ 8 ∧ k = .int .i64 (K : Int) ∧ x = .int .i64 V ∧ 0 ≤ V ∧ V ≤ 255 ∧ v = .slice a3 (I * 8 + K) c3 ∧ Hid (digsW 1 (8 - K) V = (L.drop (I * 8 + K)).take (8 - K)) ∧
          Hid (Own wr w.heap.size a3 c3 ((L.take (I * 8 + K)).map fun p => l.getD p.toNat 0)) ∧ Hid (∀ p ∈ L.take (I * 8 + K), p < nl) ∧ Below w.heap.size w wr ∧ w.heap.size ≤ wr.heap.size) (fun _ _ k _ => 8 - (intOf k).toNat)
        case atStart => exact ⟨0, z, a2, c2, Nat.zero_le _, rfl, rfl, z0, z1, rfl, HZ, HO, Hall, hb, hsz⟩
        case round =>
          obtain ⟨K, V, a3, c3, hK, rfl, rfl, v0, v1, rfl, HG, HO3, Hall3, hb3, hsz3⟩ := hrel
          clear HO Hall hb hsz HZ hcell z0 z1
          by_cases hk : K < 8
          · have hk' : (K : Int) < 8 := by omega
            have hTl : I * 8 + K < L.length := by rw [HLl.out]; omega
            have Hst : Hid (L[I * 8 + K] = V % 2 ∧ digsW 1 (8 - (K + 1)) (V / 2) = (L.drop (I * 8 + (K + 1))).take (8 - (K + 1))) := by
              have h1 := HG.out
              rw [show 8 - K = (8 - (K + 1)) + 1 by omega] at h1
              exact place_step (w := 1) h1 hTl
            have Hmem : Hid (V % 2 ∈ L) := by rw [← Hst.out.1]; exact List.getElem_mem hTl
            have Htk : Hid (L.take (I * 8 + (K + 1)) = L.take (I * 8 + K) ++ [V % 2]) := by
              show _ = _
              rw [← Nat.add_assoc, List.take_succ_eq_append_getElem hTl, Hst.out.1]
            have hrem : V.tmod 2 = V % 2 := Int.tmod_eq_emod_of_nonneg v0
            obtain ⟨P, hP⟩ : ∃ P : Nat, V % 2 = (P : Int) := ⟨(V % 2).toNat, by omega⟩
            have hPq : P < 2 := by omega
            have Hdiv : Hid (0 ≤ V / 2 ∧ V / 2 ≤ 255) := ⟨by omega, by omega⟩
            rw [hP] at hrem
            have HP : Hid (V % 2 = (P : Int)) := hP
            clear hP HG
            by_cases hf : nl ≤ P
            · have hf' : (nl : Int) ≤ P := by omega
              have e : D = (4, []) := Hbad.out _ Hmem.out (by rw [HP.out]; exact hf')
              subst e
              clear Hbad Hend HL HB HO3 Hall3 Hst Hmem Htk HLe HLl hTl
              go_wp2
              go_ret2
              exact ⟨hb3, rfl⟩
            · have hf' : ¬ (nl : Int) ≤ P := by omega
              obtain ⟨bl, ol, x, rfl, hcl, x0, x1, hPl, hxe⟩ := (HL.out.later hb3).get P (by omega)
              have Hx : Hid (0 ≤ x ∧ x ≤ 255) := ⟨x0, x1⟩
              have Hxl : Hid (l.getD (V % 2).toNat 0 = x) := by
                show _ = _
                rw [HP.out, Int.toNat_natCast, List.getD_eq_getElem?_getD, List.getElem?_eq_getElem hPl, hxe]
                rfl
              have HL5 : Hid (((L.take (I * 8 + K)).map fun p => l.getD p.toNat 0).length = I * 8 + K) := by show _ = _; rw [List.length_map, List.length_take]; omega
              have HO6 : Hid (Own (wr.alloc (.cells #[.int .u8 x] 5)) w.heap.size a3 c3 ((L.take (I * 8 + K)).map fun p => l.getD p.toNat 0)) := HO3.out.later ((Below.refl _ _).alloc (Nat.le_refl _) _)
              have HB6 : Hid _ := oneByte wr x Hx.out
              have HA6 : Hid _ := belowAlloc hb3 hsz3 (.cells #[.int .u8 x] 5)
              have HAN : Hid (I * 8 + K + 1 ≤ 140737488355328) := by show _ ≤ _; omega
              have Hall7 : Hid (∀ p ∈ L.take (I * 8 + (K + 1)), p < nl) := fun p hp => by
                rw [Htk.out] at hp
                rcases List.mem_append.1 hp with h | h
                · exact Hall3.out p h
                · rw [List.mem_singleton.1 h, HP.out]; omega
              have Hst2 : Hid (digsW 1 (8 - (K + 1)) (V / 2) = (L.drop (I * 8 + (K + 1))).take (8 - (K + 1))) := Hst.out.2
              clear hxe hPl x0 x1 Hst hTl HO3 Hall3 Hmem
              go_upto_region 15 with fail
              go_wp2_with (at_builtin; refine wpList_append_bytes rfl (.tmp 46) (.tmp 51) rfl w.heap.size a3 (I * 8 + K) c3 ((L.take (I * 8 + K)).map fun p => l.getD p.toNat 0) HL5.out rfl HO6.out _ 1 1 [x] rfl HB6.out (fun h => by cases h) HAN.out w HA6.out.1 HA6.out.2 ?_; intro a7 c7 w7 HO7 hb7 hs7)
              go_roundw
              case rel =>
                refine ⟨K + 1, V / 2, a7, c7, by omega, by go_num, rfl, Hdiv.out.1, Hdiv.out.2, by simp [Nat.add_assoc], Hst2, ?_, Hall7, hb7, hs7⟩
                show Own _ _ _ _ _
                rw [Htk.out, List.map_append, List.map_cons, List.map_nil, Hxl.out]
                exact HO7.out
              case measure => simp [intOf]; omega
          · obtain rfl : K = 8 := by omega
            have HT : Hid (I * 8 + 8 = (I + 1) * 8) := by show _ = _; omega
            have HO8 : Hid (Own wr w.heap.size a3 c3 ((L.take ((I + 1) * 8)).map fun p => l.getD p.toNat 0)) := by rw [← HT.out]; exact HO3.out
            have Hall8 : Hid (∀ p ∈ L.take ((I + 1) * 8), p < nl) := by rw [← HT.out]; exact Hall3.out
            clear HG HO3 Hall3
            go_wp2
            go_roundw
            case rel => exact ⟨I + 1, a3, c3, by omega, by go_num, by rw [HT.out], HO8, Hall8, hb3, hsz3⟩
            case measure => simp [intOf]; omega
      · obtain rfl : I = 4096 := by omega
        have e := Hend.out (by have h := Hall.out; rwa [List.take_of_length_le (by rw [HLl.out]; exact Nat.le_refl _)] at h)
        have HO9 : Hid (Own wr w.heap.size a2 c2 (L.map fun p => l.getD p.toNat 0)) := by have h := HO.out; rwa [List.take_of_length_le (by rw [HLl.out]; exact Nat.le_refl _)] at h
        clear HO Hall Hbad Hend HLe HLl HL HB
        by_cases hg : 0 < t
        · rw [if_pos (by omega)] at e
          subst e
          have hg' : (0 : Int) < t := by omega
          clear HO9
          go_wp2
          go_ret2
          exact ⟨hb, rfl⟩
        · obtain rfl : t = 0 := by omega
          rw [if_neg (by omega)] at e
          subst e
          go_wp2
          go_ret2
          exact ⟨hb, a2, c2, rfl, HO9.out⟩

set_option maxRecDepth 1000000 in
set_option maxHeartbeats 4000000 in
theorem rpacked2 (ab : Option Addr) (nb cb : Nat) (bs : List Int) (al : Option Addr) (nl cl : Nat) (l : List Int) (w : World) (hB : Bytes w ab nb bs) (hnb : nb ≤ 1000000) (hL : Bytes w al nl l) (hnl : nl ≤ 17) (hw : wid nl = 2) :
    Calls Try.prog 36 #[.slice ab nb cb, .slice al nl cl] w fun e w' => Below w.heap.size w w' ∧ (((packD l 2 bs).1 = 0 ∧ ∃ a c, e = .returned (.tuple #[.slice a 32768 c, .int .i64 0]) ∧ Own w' w.heap.size a c (packD l 2 bs).2) ∨
      ((packD l 2 bs).1 ≠ 0 ∧ e = .returned (.tuple #[.slice none 0 0, .int .i64 (packD l 2 bs).1]))) := by
  obtain ⟨D, hD⟩ : ∃ D, D = packD l 2 bs := ⟨_, rfl⟩
  rw [← hD]
  have HD : Hid (D = packD l 2 bs) := hD
  have HL : Hid (Bytes w al nl l) := hL
  have HB : Hid (Bytes w ab nb bs) := hB
  have hwid := rwidth_c nl hnl w
  rw [hw] at hwid
  have HNB : Hid (nb ≤ 1000000) := hnb
  clear hD hB hL hnb hw
  go_enter Try.func36, Try.ntmps36
  go_wp2_with fail
  refine hwid.mono ?_
  clear hwid
  rintro _ w1 ⟨rfl, hw1⟩
  rw [hw1]
  clear hw1 w1
  by_cases hs : nb < 8192
  · have hs' : (nb : Int) < 8192 := by omega
    have e : D = (3, []) := by rw [HD.out]; exact packD_short (by rw [HB.out.n]; omega)
    subst e
    clear HD HL HB HNB
    go_wp2
    go_ret2
    exact ⟨Below.refl _ _, rfl⟩
  · obtain ⟨t, rfl⟩ : ∃ t : Nat, nb = 8192 + t := ⟨nb - 8192, by omega⟩
    clear hs
    obtain ⟨L, hLe⟩ : ∃ L, L = spread 2 4 (bs.take 8192) := ⟨_, rfl⟩
    have HLe : Hid (L = spread 2 4 (bs.take 8192)) := hLe
    have HLl : Hid (L.length = 32768) := by
      show _ = _
      rw [hLe, spread_len, List.length_take, HB.out.n, Nat.min_eq_left (by omega)]
    have Hbad : Hid (∀ p ∈ L, (nl : Int) ≤ p → D = (4, [])) := fun p hp hf => by
      rw [HD.out]
      exact packD_bad (by rw [HB.out.n]; omega) (by rw [hLe] at hp; exact hp) (by rw [HL.out.n]; exact hf)
    have Hend : Hid ((∀ p ∈ L, p < nl) → D = if 8192 < 8192 + t then (2, []) else (0, L.map fun p => l.getD p.toNat 0)) := fun ha => by
      rw [HD.out, packD_end (by rw [HB.out.n]; omega) (by rw [HL.out.n]; rw [hLe] at ha; exact ha), HB.out.n, hLe]
    clear HD hLe
    go_wp2
    go_loopw [7, 8] (fun v i wr => ∃ (I : Nat) (a2 : Option Addr) (c2 : Nat), I ≤ 8192 ∧ i = .int .i64 (I : Int) ∧ v = .slice a2 (I * 4) c2 ∧ Hid (Own wr w.heap.size a2 c2 ((L.take (I * 4)).map fun p => l.getD p.toNat 0)) ∧ Hid (∀ p ∈ L.take (I * 4), p < nl) ∧ Below w.heap.size w wr ∧ w.heap.size ≤ wr.heap.size) (fun _ i _ => 8192 - (intOf i).toNat)
    case atStart => exact ⟨0, none, 0, Nat.zero_le _, rfl, rfl, (show Own _ _ _ _ _ by simpa using Own.nil w w.heap.size), (fun p hp => by simp at hp), Below.refl _ _, Nat.le_refl _⟩
    case round =>
      obtain ⟨I, a2, c2, hI, rfl, rfl, HO, Hall, hb, hsz⟩ := hrel
      by_cases hlt : I < 8192
      · have hlt' : (I : Int) < 8192 := by omega
        have hIt : (I : Int) < 8192 + (t : Int) := by omega
        obtain ⟨bb, ob, z, rfl, hcell, z0, z1, hIb, hz⟩ := (HB.out.later hb).get I (by omega)
        have HZ : Hid (digsW 2 4 z = (L.drop (I * 4)).take 4) := by
          show _ = _
          have h1 : I < (bs.take 8192).length := by rw [List.length_take]; omega
          have h2 := spread_byte 2 4 (bs.take 8192) I h1
          rw [List.getElem_take, ← hz, ← HLe.out] at h2
          exact h2
        clear hz hIb
        go_wp2
        go_loopw [7, 9, 10] (fun v x k wr => ∃ (K : Nat) (V : Int) (a3 : Option Addr) (c3 : Nat), K ≤ 4 ∧ k = .int .i64 (K : Int) ∧ x = .int .i64 V ∧ 0 ≤ V ∧ V ≤ 255 ∧ v = .slice a3 (I * 4 + K) c3 ∧ Hid (digsW 2 (4 - K) V = (L.drop (I * 4 + K)).take (4 - K)) ∧
          Hid (Own wr w.heap.size a3 c3 ((L.take (I * 4 + K)).map fun p => l.getD p.toNat 0)) ∧ Hid (∀ p ∈ L.take (I * 4 + K), p < nl) ∧ Below w.heap.size w wr ∧ w.heap.size ≤ wr.heap.size) (fun _ _ k _ => 4 - (intOf k).toNat)
        case atStart => exact ⟨0, z, a2, c2, Nat.zero_le _, rfl, rfl, z0, z1, rfl, HZ, HO, Hall, hb, hsz⟩
        case round =>
          obtain ⟨K, V, a3, c3, hK, rfl, rfl, v0, v1, rfl, HG, HO3, Hall3, hb3, hsz3⟩ := hrel
          clear HO Hall hb hsz HZ hcell z0 z1
          by_cases hk : K < 4
          · have hk' : (K : Int) < 4 := by omega
            have hTl : I * 4 + K < L.length := by rw [HLl.out]; omega
            have Hst : Hid (L[I * 4 + K] = V % 4 ∧ digsW 2 (4 - (K + 1)) (V / 4) = (L.drop (I * 4 + (K + 1))).take (4 - (K + 1))) := by
              have h1 := HG.out
              rw [show 4 - K = (4 - (K + 1)) + 1 by omega] at h1
              exact place_step (w := 2) h1 hTl
            have Hmem : Hid (V % 4 ∈ L) := by rw [← Hst.out.1]; exact List.getElem_mem hTl
            have Htk : Hid (L.take (I * 4 + (K + 1)) = L.take (I * 4 + K) ++ [V % 4]) := by
              show _ = _
              rw [← Nat.add_assoc, List.take_succ_eq_append_getElem hTl, Hst.out.1]
            have hrem : V.tmod 4 = V % 4 := Int.tmod_eq_emod_of_nonneg v0
            obtain ⟨P, hP⟩ : ∃ P : Nat, V % 4 = (P : Int) := ⟨(V % 4).toNat, by omega⟩
            have hPq : P < 4 := by omega
            have Hdiv : Hid (0 ≤ V / 4 ∧ V / 4 ≤ 255) := ⟨by omega, by omega⟩
            rw [hP] at hrem
            have HP : Hid (V % 4 = (P : Int)) := hP
            clear hP HG
            by_cases hf : nl ≤ P
            · have hf' : (nl : Int) ≤ P := by omega
              have e : D = (4, []) := Hbad.out _ Hmem.out (by rw [HP.out]; exact hf')
              subst e
              clear Hbad Hend HL HB HO3 Hall3 Hst Hmem Htk HLe HLl hTl
              go_wp2
              go_ret2
              exact ⟨hb3, rfl⟩
            · have hf' : ¬ (nl : Int) ≤ P := by omega
              obtain ⟨bl, ol, x, rfl, hcl, x0, x1, hPl, hxe⟩ := (HL.out.later hb3).get P (by omega)
              have Hx : Hid (0 ≤ x ∧ x ≤ 255) := ⟨x0, x1⟩
              have Hxl : Hid (l.getD (V % 4).toNat 0 = x) := by
                show _ = _
                rw [HP.out, Int.toNat_natCast, List.getD_eq_getElem?_getD, List.getElem?_eq_getElem hPl, hxe]
                rfl
              have HL5 : Hid (((L.take (I * 4 + K)).map fun p => l.getD p.toNat 0).length = I * 4 + K) := by show _ = _; rw [List.length_map, List.length_take]; omega
              have HO6 : Hid (Own (wr.alloc (.cells #[.int .u8 x] 5)) w.heap.size a3 c3 ((L.take (I * 4 + K)).map fun p => l.getD p.toNat 0)) := HO3.out.later ((Below.refl _ _).alloc (Nat.le_refl _) _)
              have HB6 : Hid _ := oneByte wr x Hx.out
              have HA6 : Hid _ := belowAlloc hb3 hsz3 (.cells #[.int .u8 x] 5)
              have HAN : Hid (I * 4 + K + 1 ≤ 140737488355328) := by show _ ≤ _; omega
              have Hall7 : Hid (∀ p ∈ L.take (I * 4 + (K + 1)), p < nl) := fun p hp => by
                rw [Htk.out] at hp
                rcases List.mem_append.1 hp with h | h
                · exact Hall3.out p h
                · rw [List.mem_singleton.1 h, HP.out]; omega
              have Hst2 : Hid (digsW 2 (4 - (K + 1)) (V / 4) = (L.drop (I * 4 + (K + 1))).take (4 - (K + 1))) := Hst.out.2
              clear hxe hPl x0 x1 Hst hTl HO3 Hall3 Hmem
              go_upto_region 15 with fail
              go_wp2_with (at_builtin; refine wpList_append_bytes rfl (.tmp 46) (.tmp 51) rfl w.heap.size a3 (I * 4 + K) c3 ((L.take (I * 4 + K)).map fun p => l.getD p.toNat 0) HL5.out rfl HO6.out _ 1 1 [x] rfl HB6.out (fun h => by cases h) HAN.out w HA6.out.1 HA6.out.2 ?_; intro a7 c7 w7 HO7 hb7 hs7)
              go_roundw
              case rel =>
                refine ⟨K + 1, V / 4, a7, c7, by omega, by go_num, rfl, Hdiv.out.1, Hdiv.out.2, by simp [Nat.add_assoc], Hst2, ?_, Hall7, hb7, hs7⟩
                show Own _ _ _ _ _
                rw [Htk.out, List.map_append, List.map_cons, List.map_nil, Hxl.out]
                exact HO7.out
              case measure => simp [intOf]; omega
          · obtain rfl : K = 4 := by omega
            have HT : Hid (I * 4 + 4 = (I + 1) * 4) := by show _ = _; omega
            have HO8 : Hid (Own wr w.heap.size a3 c3 ((L.take ((I + 1) * 4)).map fun p => l.getD p.toNat 0)) := by rw [← HT.out]; exact HO3.out
            have Hall8 : Hid (∀ p ∈ L.take ((I + 1) * 4), p < nl) := by rw [← HT.out]; exact Hall3.out
            clear HG HO3 Hall3
            go_wp2
            go_roundw
            case rel => exact ⟨I + 1, a3, c3, by omega, by go_num, by rw [HT.out], HO8, Hall8, hb3, hsz3⟩
            case measure => simp [intOf]; omega
      · obtain rfl : I = 8192 := by omega
        have e := Hend.out (by have h := Hall.out; rwa [List.take_of_length_le (by rw [HLl.out]; exact Nat.le_refl _)] at h)
        have HO9 : Hid (Own wr w.heap.size a2 c2 (L.map fun p => l.getD p.toNat 0)) := by have h := HO.out; rwa [List.take_of_length_le (by rw [HLl.out]; exact Nat.le_refl _)] at h
        clear HO Hall Hbad Hend HLe HLl HL HB
        by_cases hg : 0 < t
        · rw [if_pos (by omega)] at e
          subst e
          have hg' : (0 : Int) < t := by omega
          clear HO9
          go_wp2
          go_ret2
          exact ⟨hb, rfl⟩
        · obtain rfl : t = 0 := by omega
          rw [if_neg (by omega)] at e
          subst e
          go_wp2
          go_ret2
          exact ⟨hb, a2, c2, rfl, HO9.out⟩

set_option maxRecDepth 1000000 in
set_option maxHeartbeats 4000000 in
theorem rpacked4 (ab : Option Addr) (nb cb : Nat) (bs : List Int) (al : Option Addr) (nl cl : Nat) (l : List Int) (w : World) (hB : Bytes w ab nb bs) (hnb : nb ≤ 1000000) (hL : Bytes w al nl l) (hnl : nl ≤ 17) (hw : wid nl = 4) :
    Calls Try.prog 36 #[.slice ab nb cb, .slice al nl cl] w fun e w' => Below w.heap.size w w' ∧ (((packD l 4 bs).1 = 0 ∧ ∃ a c, e = .returned (.tuple #[.slice a 32768 c, .int .i64 0]) ∧ Own w' w.heap.size a c (packD l 4 bs).2) ∨
      ((packD l 4 bs).1 ≠ 0 ∧ e = .returned (.tuple #[.slice none 0 0, .int .i64 (packD l 4 bs).1]))) := by
  obtain ⟨D, hD⟩ : ∃ D, D = packD l 4 bs := ⟨_, rfl⟩
  rw [← hD]
  have HD : Hid (D = packD l 4 bs) := hD
  have HL : Hid (Bytes w al nl l) := hL
  have HB : Hid (Bytes w ab nb bs) := hB
  have hwid := rwidth_c nl hnl w
  rw [hw] at hwid
  have HNB : Hid (nb ≤ 1000000) := hnb
  clear hD hB hL hnb hw
  go_enter Try.func36, Try.ntmps36
  go_wp2_with fail
  refine hwid.mono ?_
  clear hwid
  rintro _ w1 ⟨rfl, hw1⟩
  rw [hw1]
  clear hw1 w1
  by_cases hs : nb < 16384
  · have hs' : (nb : Int) < 16384 := by omega
    have e : D = (3, []) := by rw [HD.out]; exact packD_short (by rw [HB.out.n]; omega)
    subst e
    clear HD HL HB HNB
    go_wp2
    go_ret2
    exact ⟨Below.refl _ _, rfl⟩
  · obtain ⟨t, rfl⟩ : ∃ t : Nat, nb = 16384 + t := ⟨nb - 16384, by omega⟩
    clear hs
    obtain ⟨L, hLe⟩ : ∃ L, L = spread 4 2 (bs.take 16384) := ⟨_, rfl⟩
    have HLe : Hid (L = spread 4 2 (bs.take 16384)) := hLe
    have HLl : Hid (L.length = 32768) := by
      show _ = _
      rw [hLe, spread_len, List.length_take, HB.out.n, Nat.min_eq_left (by omega)]
    have Hbad : Hid (∀ p ∈ L, (nl : Int) ≤ p → D = (4, [])) := fun p hp hf => by
      rw [HD.out]
      exact packD_bad (by rw [HB.out.n]; omega) (by rw [hLe] at hp; exact hp) (by rw [HL.out.n]; exact hf)
    have Hend : Hid ((∀ p ∈ L, p < nl) → D = if 16384 < 16384 + t then (2, []) else (0, L.map fun p => l.getD p.toNat 0)) := fun ha => by
      rw [HD.out, packD_end (by rw [HB.out.n]; omega) (by rw [HL.out.n]; rw [hLe] at ha; exact ha), HB.out.n, hLe]
    clear HD hLe
    go_wp2
    go_loopw [7, 8] (fun v i wr => ∃ (I : Nat) (a2 : Option Addr) (c2 : Nat), I ≤ 16384 ∧ i = .int .i64 (I : Int) ∧ v = .slice a2 (I * 2) c2 ∧ Hid (Own wr w.heap.size a2 c2 ((L.take (I * 2)).map fun p => l.getD p.toNat 0)) ∧ Hid (∀ p ∈ L.take (I * 2), p < nl) ∧ Below w.heap.size w wr ∧ w.heap.size ≤ wr.heap.size) (fun _ i _ => 16384 - (intOf i).toNat)
    case atStart => exact ⟨0, none, 0, Nat.zero_le _, rfl, rfl, (show Own _ _ _ _ _ by simpa using Own.nil w w.heap.size), (fun p hp => by simp at hp), Below.refl _ _, Nat.le_refl _⟩
    case round =>
      obtain ⟨I, a2, c2, hI, rfl, rfl, HO, Hall, hb, hsz⟩ := hrel
      by_cases hlt : I < 16384
      · have hlt' : (I : Int) < 16384 := by omega
        have hIt : (I : Int) < 16384 + (t : Int) := by omega
        obtain ⟨bb, ob, z, rfl, hcell, z0, z1, hIb, hz⟩ := (HB.out.later hb).get I (by omega)
        have HZ : Hid (digsW 4 2 z = (L.drop (I * 2)).take 2) := by
          show _ = _
          have h1 : I < (bs.take 16384).length := by rw [List.length_take]; omega
          have h2 := spread_byte 4 2 (bs.take 16384) I h1
          rw [List.getElem_take, ← hz, ← HLe.out] at h2
          exact h2
        clear hz hIb
        go_wp2
        go_loopw [7, 9, 10] (fun v x k wr => ∃ (K : Nat) (V : Int) (a3 : Option Addr) (c3 : Nat), K ≤ 2 ∧ k = .int .i64 (K : Int) ∧ x = .int .i64 V ∧ 0 ≤ V ∧ V ≤ 255 ∧ v = .slice a3 (I * 2 + K) c3 ∧ Hid (digsW 4 (2 - K) V = (L.drop (I * 2 + K)).take (2 - K)) ∧
          Hid (Own wr w.heap.size a3 c3 ((L.take (I * 2 + K)).map fun p => l.getD p.toNat 0)) ∧ Hid (∀ p ∈ L.take (I * 2 + K), p < nl) ∧ Below w.heap.size w wr ∧ w.heap.size ≤ wr.heap.size) (fun _ _ k _ => 2 - (intOf k).toNat)
        case atStart => exact ⟨0, z, a2, c2, Nat.zero_le _, rfl, rfl, z0, z1, rfl, HZ, HO, Hall, hb, hsz⟩
        case round =>
          obtain ⟨K, V, a3, c3, hK, rfl, rfl, v0, v1, rfl, HG, HO3, Hall3, hb3, hsz3⟩ := hrel
          clear HO Hall hb hsz HZ hcell z0 z1
          by_cases hk : K < 2
          · have hk' : (K : Int) < 2 := by omega
            have hTl : I * 2 + K < L.length := by rw [HLl.out]; omega
            have Hst : Hid (L[I * 2 + K] = V % 16 ∧ digsW 4 (2 - (K + 1)) (V / 16) = (L.drop (I * 2 + (K + 1))).take (2 - (K + 1))) := by
              have h1 := HG.out
              rw [show 2 - K = (2 - (K + 1)) + 1 by omega] at h1
              exact place_step (w := 4) h1 hTl
            have Hmem : Hid (V % 16 ∈ L) := by rw [← Hst.out.1]; exact List.getElem_mem hTl
            have Htk : Hid (L.take (I * 2 + (K + 1)) = L.take (I * 2 + K) ++ [V % 16]) := by
              show _ = _
              rw [← Nat.add_assoc, List.take_succ_eq_append_getElem hTl, Hst.out.1]
            have hrem : V.tmod 16 = V % 16 := Int.tmod_eq_emod_of_nonneg v0
            obtain ⟨P, hP⟩ : ∃ P : Nat, V % 16 = (P : Int) := ⟨(V % 16).toNat, by omega⟩
            have hPq : P < 16 := by omega
            have Hdiv : Hid (0 ≤ V / 16 ∧ V / 16 ≤ 255) := ⟨by omega, by omega⟩
            rw [hP] at hrem
            have HP : Hid (V % 16 = (P : Int)) := hP
            clear hP HG
            by_cases hf : nl ≤ P
            · have hf' : (nl : Int) ≤ P := by omega
              have e : D = (4, []) := Hbad.out _ Hmem.out (by rw [HP.out]; exact hf')
              subst e
              clear Hbad Hend HL HB HO3 Hall3 Hst Hmem Htk HLe HLl hTl
              go_wp2
              go_ret2
              exact ⟨hb3, rfl⟩
            · have hf' : ¬ (nl : Int) ≤ P := by omega
              obtain ⟨bl, ol, x, rfl, hcl, x0, x1, hPl, hxe⟩ := (HL.out.later hb3).get P (by omega)
              have Hx : Hid (0 ≤ x ∧ x ≤ 255) := ⟨x0, x1⟩
              have Hxl : Hid (l.getD (V % 16).toNat 0 = x) := by
                show _ = _
                rw [HP.out, Int.toNat_natCast, List.getD_eq_getElem?_getD, List.getElem?_eq_getElem hPl, hxe]
                rfl
              have HL5 : Hid (((L.take (I * 2 + K)).map fun p => l.getD p.toNat 0).length = I * 2 + K) := by show _ = _; rw [List.length_map, List.length_take]; omega
              have HO6 : Hid (Own (wr.alloc (.cells #[.int .u8 x] 5)) w.heap.size a3 c3 ((L.take (I * 2 + K)).map fun p => l.getD p.toNat 0)) := HO3.out.later ((Below.refl _ _).alloc (Nat.le_refl _) _)
              have HB6 : Hid _ := oneByte wr x Hx.out
              have HA6 : Hid _ := belowAlloc hb3 hsz3 (.cells #[.int .u8 x] 5)
              have HAN : Hid (I * 2 + K + 1 ≤ 140737488355328) := by show _ ≤ _; omega
              have Hall7 : Hid (∀ p ∈ L.take (I * 2 + (K + 1)), p < nl) := fun p hp => by
                rw [Htk.out] at hp
                rcases List.mem_append.1 hp with h | h
                · exact Hall3.out p h
                · rw [List.mem_singleton.1 h, HP.out]; omega
              have Hst2 : Hid (digsW 4 (2 - (K + 1)) (V / 16) = (L.drop (I * 2 + (K + 1))).take (2 - (K + 1))) := Hst.out.2
              clear hxe hPl x0 x1 Hst hTl HO3 Hall3 Hmem
              go_upto_region 15 with fail
              go_wp2_with (at_builtin; refine wpList_append_bytes rfl (.tmp 46) (.tmp 51) rfl w.heap.size a3 (I * 2 + K) c3 ((L.take (I * 2 + K)).map fun p => l.getD p.toNat 0) HL5.out rfl HO6.out _ 1 1 [x] rfl HB6.out (fun h => by cases h) HAN.out w HA6.out.1 HA6.out.2 ?_; intro a7 c7 w7 HO7 hb7 hs7)
              go_roundw
              case rel =>
                refine ⟨K + 1, V / 16, a7, c7, by omega, by go_num, rfl, Hdiv.out.1, Hdiv.out.2, by simp [Nat.add_assoc], Hst2, ?_, Hall7, hb7, hs7⟩
                show Own _ _ _ _ _
                rw [Htk.out, List.map_append, List.map_cons, List.map_nil, Hxl.out]
                exact HO7.out
              case measure => simp [intOf]; omega
          · obtain rfl : K = 2 := by omega
            have HT : Hid (I * 2 + 2 = (I + 1) * 2) := by show _ = _; omega
            have HO8 : Hid (Own wr w.heap.size a3 c3 ((L.take ((I + 1) * 2)).map fun p => l.getD p.toNat 0)) := by rw [← HT.out]; exact HO3.out
            have Hall8 : Hid (∀ p ∈ L.take ((I + 1) * 2), p < nl) := by rw [← HT.out]; exact Hall3.out
            clear HG HO3 Hall3
            go_wp2
            go_roundw
            case rel => exact ⟨I + 1, a3, c3, by omega, by go_num, by rw [HT.out], HO8, Hall8, hb3, hsz3⟩
            case measure => simp [intOf]; omega
      · obtain rfl : I = 16384 := by omega
        have e := Hend.out (by have h := Hall.out; rwa [List.take_of_length_le (by rw [HLl.out]; exact Nat.le_refl _)] at h)
        have HO9 : Hid (Own wr w.heap.size a2 c2 (L.map fun p => l.getD p.toNat 0)) := by have h := HO.out; rwa [List.take_of_length_le (by rw [HLl.out]; exact Nat.le_refl _)] at h
        clear HO Hall Hbad Hend HLe HLl HL HB
        by_cases hg : 0 < t
        · rw [if_pos (by omega)] at e
          subst e
          have hg' : (0 : Int) < t := by omega
          clear HO9
          go_wp2
          go_ret2
          exact ⟨hb, rfl⟩
        · obtain rfl : t = 0 := by omega
          rw [if_neg (by omega)] at e
          subst e
          go_wp2
          go_ret2
          exact ⟨hb, a2, c2, rfl, HO9.out⟩

set_option maxRecDepth 1000000 in
set_option maxHeartbeats 4000000 in
theorem rpacked8 (ab : Option Addr) (nb cb : Nat) (bs : List Int) (al : Option Addr) (nl cl : Nat) (l : List Int) (w : World) (hB : Bytes w ab nb bs) (hnb : nb ≤ 1000000) (hL : Bytes w al nl l) (hnl : nl ≤ 17) (hw : wid nl = 8) :
    Calls Try.prog 36 #[.slice ab nb cb, .slice al nl cl] w fun e w' => Below w.heap.size w w' ∧ (((packD l 8 bs).1 = 0 ∧ ∃ a c, e = .returned (.tuple #[.slice a 32768 c, .int .i64 0]) ∧ Own w' w.heap.size a c (packD l 8 bs).2) ∨
      ((packD l 8 bs).1 ≠ 0 ∧ e = .returned (.tuple #[.slice none 0 0, .int .i64 (packD l 8 bs).1]))) := by
  obtain ⟨D, hD⟩ : ∃ D, D = packD l 8 bs := ⟨_, rfl⟩
  rw [← hD]
  have HD : Hid (D = packD l 8 bs) := hD
  have HL : Hid (Bytes w al nl l) := hL
  have HB : Hid (Bytes w ab nb bs) := hB
  have hwid := rwidth_c nl hnl w
  rw [hw] at hwid
  have HNB : Hid (nb ≤ 1000000) := hnb
  clear hD hB hL hnb hw
  go_enter Try.func36, Try.ntmps36
  go_wp2_with fail
  refine hwid.mono ?_
  clear hwid
  rintro _ w1 ⟨rfl, hw1⟩
  rw [hw1]
  clear hw1 w1
  by_cases hs : nb < 32768
  · have hs' : (nb : Int) < 32768 := by omega
    have e : D = (3, []) := by rw [HD.out]; exact packD_short (by rw [HB.out.n]; omega)
    subst e
    clear HD HL HB HNB
    go_wp2
    go_ret2
    exact ⟨Below.refl _ _, rfl⟩
  · obtain ⟨t, rfl⟩ : ∃ t : Nat, nb = 32768 + t := ⟨nb - 32768, by omega⟩
    clear hs
    obtain ⟨L, hLe⟩ : ∃ L, L = spread 8 1 (bs.take 32768) := ⟨_, rfl⟩
    have HLe : Hid (L = spread 8 1 (bs.take 32768)) := hLe
    have HLl : Hid (L.length = 32768) := by
      show _ = _
      rw [hLe, spread_len, List.length_take, HB.out.n, Nat.min_eq_left (by omega)]
    have Hbad : Hid (∀ p ∈ L, (nl : Int) ≤ p → D = (4, [])) := fun p hp hf => by
      rw [HD.out]
      exact packD_bad (by rw [HB.out.n]; omega) (by rw [hLe] at hp; exact hp) (by rw [HL.out.n]; exact hf)
    have Hend : Hid ((∀ p ∈ L, p < nl) → D = if 32768 < 32768 + t then (2, []) else (0, L.map fun p => l.getD p.toNat 0)) := fun ha => by
      rw [HD.out, packD_end (by rw [HB.out.n]; omega) (by rw [HL.out.n]; rw [hLe] at ha; exact ha), HB.out.n, hLe]
    clear HD hLe
    go_wp2
    go_loopw [7, 8] (fun v i wr => ∃ (I : Nat) (a2 : Option Addr) (c2 : Nat), I ≤ 32768 ∧ i = .int .i64 (I : Int) ∧ v = .slice a2 (I * 1) c2 ∧ Hid (Own wr w.heap.size a2 c2 ((L.take (I * 1)).map fun p => l.getD p.toNat 0)) ∧ Hid (∀ p ∈ L.take (I * 1), p < nl) ∧ Below w.heap.size w wr ∧ w.heap.size ≤ wr.heap.size) (fun _ i _ => 32768 - (intOf i).toNat)
    case atStart => exact ⟨0, none, 0, Nat.zero_le _, rfl, rfl, (show Own _ _ _ _ _ by simpa using Own.nil w w.heap.size), (fun p hp => by simp at hp), Below.refl _ _, Nat.le_refl _⟩
    case round =>
      obtain ⟨I, a2, c2, hI, rfl, rfl, HO, Hall, hb, hsz⟩ := hrel
      by_cases hlt : I < 32768
      · have hlt' : (I : Int) < 32768 := by omega
        have hIt : (I : Int) < 32768 + (t : Int) := by omega
        obtain ⟨bb, ob, z, rfl, hcell, z0, z1, hIb, hz⟩ := (HB.out.later hb).get I (by omega)
        have HZ : Hid (digsW 8 1 z = (L.drop (I * 1)).take 1) := by
          show _ = _
          have h1 : I < (bs.take 32768).length := by rw [List.length_take]; omega
          have h2 := spread_byte 8 1 (bs.take 32768) I h1
          rw [List.getElem_take, ← hz, ← HLe.out] at h2
          exact h2
        clear hz hIb
        go_wp2
        go_loopw [7, 9, 10] (fun v x k wr => ∃ (K : Nat) (V : Int) (a3 : Option Addr) (c3 : Nat), K ≤ 1 ∧ k = .int .i64 (K : Int) ∧ x = .int .i64 V ∧ 0 ≤ V ∧ V ≤ 255 ∧ v = .slice a3 (I * 1 + K) c3 ∧ Hid (digsW 8 (1 - K) V = (L.drop (I * 1 + K)).take (1 - K)) ∧
          Hid (Own wr w.heap.size a3 c3 ((L.take (I * 1 + K)).map fun p => l.getD p.toNat 0)) ∧ Hid (∀ p ∈ L.take (I * 1 + K), p < nl) ∧ Below w.heap.size w wr ∧ w.heap.size ≤ wr.heap.size) (fun _ _ k _ => 1 - (intOf k).toNat)
        case atStart => exact ⟨0, z, a2, c2, Nat.zero_le _, rfl, rfl, z0, z1, rfl, HZ, HO, Hall, hb, hsz⟩
        case round =>
          obtain ⟨K, V, a3, c3, hK, rfl, rfl, v0, v1, rfl, HG, HO3, Hall3, hb3, hsz3⟩ := hrel
          clear HO Hall hb hsz HZ hcell z0 z1
          by_cases hk : K < 1
          · have hk' : (K : Int) < 1 := by omega
            have hTl : I * 1 + K < L.length := by rw [HLl.out]; omega
            have Hst : Hid (L[I * 1 + K] = V % 256 ∧ digsW 8 (1 - (K + 1)) (V / 256) = (L.drop (I * 1 + (K + 1))).take (1 - (K + 1))) := by
              have h1 := HG.out
              rw [show 1 - K = (1 - (K + 1)) + 1 by omega] at h1
              exact place_step (w := 8) h1 hTl
            have Hmem : Hid (V % 256 ∈ L) := by rw [← Hst.out.1]; exact List.getElem_mem hTl
            have Htk : Hid (L.take (I * 1 + (K + 1)) = L.take (I * 1 + K) ++ [V % 256]) := by
              show _ = _
              rw [← Nat.add_assoc, List.take_succ_eq_append_getElem hTl, Hst.out.1]
            have hrem : V.tmod 256 = V % 256 := Int.tmod_eq_emod_of_nonneg v0
            obtain ⟨P, hP⟩ : ∃ P : Nat, V % 256 = (P : Int) := ⟨(V % 256).toNat, by omega⟩
            have hPq : P < 256 := by omega
            have Hdiv : Hid (0 ≤ V / 256 ∧ V / 256 ≤ 255) := ⟨by omega, by omega⟩
            rw [hP] at hrem
            have HP : Hid (V % 256 = (P : Int)) := hP
            clear hP HG
            by_cases hf : nl ≤ P
            · have hf' : (nl : Int) ≤ P := by omega
              have e : D = (4, []) := Hbad.out _ Hmem.out (by rw [HP.out]; exact hf')
              subst e
              clear Hbad Hend HL HB HO3 Hall3 Hst Hmem Htk HLe HLl hTl
              go_wp2
              go_ret2
              exact ⟨hb3, rfl⟩
            · have hf' : ¬ (nl : Int) ≤ P := by omega
              obtain ⟨bl, ol, x, rfl, hcl, x0, x1, hPl, hxe⟩ := (HL.out.later hb3).get P (by omega)
              have Hx : Hid (0 ≤ x ∧ x ≤ 255) := ⟨x0, x1⟩
              have Hxl : Hid (l.getD (V % 256).toNat 0 = x) := by
                show _ = _
                rw [HP.out, Int.toNat_natCast, List.getD_eq_getElem?_getD, List.getElem?_eq_getElem hPl, hxe]
                rfl
              have HL5 : Hid (((L.take (I * 1 + K)).map fun p => l.getD p.toNat 0).length = I * 1 + K) := by show _ = _; rw [List.length_map, List.length_take]; omega
              have HO6 : Hid (Own (wr.alloc (.cells #[.int .u8 x] 5)) w.heap.size a3 c3 ((L.take (I * 1 + K)).map fun p => l.getD p.toNat 0)) := HO3.out.later ((Below.refl _ _).alloc (Nat.le_refl _) _)
              have HB6 : Hid _ := oneByte wr x Hx.out
              have HA6 : Hid _ := belowAlloc hb3 hsz3 (.cells #[.int .u8 x] 5)
              have HAN : Hid (I * 1 + K + 1 ≤ 140737488355328) := by show _ ≤ _; omega
              have Hall7 : Hid (∀ p ∈ L.take (I * 1 + (K + 1)), p < nl) := fun p hp => by
                rw [Htk.out] at hp
                rcases List.mem_append.1 hp with h | h
                · exact Hall3.out p h
                · rw [List.mem_singleton.1 h, HP.out]; omega
              have Hst2 : Hid (digsW 8 (1 - (K + 1)) (V / 256) = (L.drop (I * 1 + (K + 1))).take (1 - (K + 1))) := Hst.out.2
              clear hxe hPl x0 x1 Hst hTl HO3 Hall3 Hmem
              go_upto_region 15 with fail
              go_wp2_with (at_builtin; refine wpList_append_bytes rfl (.tmp 46) (.tmp 51) rfl w.heap.size a3 (I * 1 + K) c3 ((L.take (I * 1 + K)).map fun p => l.getD p.toNat 0) HL5.out rfl HO6.out _ 1 1 [x] rfl HB6.out (fun h => by cases h) HAN.out w HA6.out.1 HA6.out.2 ?_; intro a7 c7 w7 HO7 hb7 hs7)
              go_roundw
              case rel =>
                refine ⟨K + 1, V / 256, a7, c7, by omega, by go_num, rfl, Hdiv.out.1, Hdiv.out.2, by simp [Nat.add_assoc], Hst2, ?_, Hall7, hb7, hs7⟩
                show Own _ _ _ _ _
                rw [Htk.out, List.map_append, List.map_cons, List.map_nil, Hxl.out]
                exact HO7.out
              case measure => simp [intOf]; omega
          · obtain rfl : K = 1 := by omega
            have HT : Hid (I * 1 + 1 = (I + 1) * 1) := by show _ = _; omega
            have HO8 : Hid (Own wr w.heap.size a3 c3 ((L.take ((I + 1) * 1)).map fun p => l.getD p.toNat 0)) := by rw [← HT.out]; exact HO3.out
            have Hall8 : Hid (∀ p ∈ L.take ((I + 1) * 1), p < nl) := by rw [← HT.out]; exact Hall3.out
            clear HG HO3 Hall3
            go_wp2
            go_roundw
            case rel => exact ⟨I + 1, a3, c3, by omega, by go_num, by rw [HT.out], HO8, Hall8, hb3, hsz3⟩
            case measure => simp [intOf]; omega
      · obtain rfl : I = 32768 := by omega
        have e := Hend.out (by have h := Hall.out; rwa [List.take_of_length_le (by rw [HLl.out]; exact Nat.le_refl _)] at h)
        have HO9 : Hid (Own wr w.heap.size a2 c2 (L.map fun p => l.getD p.toNat 0)) := by have h := HO.out; rwa [List.take_of_length_le (by rw [HLl.out]; exact Nat.le_refl _)] at h
        clear HO Hall Hbad Hend HLe HLl HL HB
        by_cases hg : 0 < t
        · rw [if_pos (by omega)] at e
          subst e
          have hg' : (0 : Int) < t := by omega
          clear HO9
          go_wp2
          go_ret2
          exact ⟨hb, rfl⟩
        · obtain rfl : t = 0 := by omega
          rw [if_neg (by omega)] at e
          subst e
          go_wp2
          go_ret2
          exact ⟨hb, a2, c2, rfl, HO9.out⟩

theorem rpacked_c (ab : Option Addr) (nb cb : Nat) (bs : List Int) (al : Option Addr) (nl cl : Nat) (l : List Int) (w : World) (hB : Bytes w ab nb bs) (hnb : nb ≤ 1000000) (hL : Bytes w al nl l) (hnl : nl ≤ 17) :
    Calls Try.prog 36 #[.slice ab nb cb, .slice al nl cl] w fun e w' => Below w.heap.size w w' ∧ (((packD l (wid nl) bs).1 = 0 ∧ ∃ a c, e = .returned (.tuple #[.slice a 32768 c, .int .i64 0]) ∧ Own w' w.heap.size a c (packD l (wid nl) bs).2) ∨
      ((packD l (wid nl) bs).1 ≠ 0 ∧ e = .returned (.tuple #[.slice none 0 0, .int .i64 (packD l (wid nl) bs).1]))) := by
  rcases wid_is nl with h | h | h | h
  · rw [h]; exact rpacked1 ab nb cb bs al nl cl l w hB hnb hL hnl h
  · rw [h]; exact rpacked2 ab nb cb bs al nl cl l w hB hnb hL hnl h
  · rw [h]; exact rpacked4 ab nb cb bs al nl cl l w hB hnb hL hnl h
  · rw [h]; exact rpacked8 ab nb cb bs al nl cl l w hB hnb hL hnl h
end Go.Proofs.Ytdkihhjhjfkjjaa
