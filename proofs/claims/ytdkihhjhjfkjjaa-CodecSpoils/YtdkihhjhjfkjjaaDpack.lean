/-
  The program's reader: packed numbers.
-/
import Derived.Test.YtdkihhjhjfkjjaaDdig
namespace Go.Proofs.Ytdkihhjhjfkjjaa
open Go.RowKit

/-- The place at cell I, out of the bytes. -/
theorem sp_get {W m : Nat} {bs : List Int} (hm : 0 < m) {I : Nat} (h : I / m < bs.length) {i s : Nat} (hi : I / m = i) (hs : W * (I % m) = s) : (spread W m bs).getD I 0 = bs.getD i 0 / 2 ^ s % 2 ^ W := by
  rw [spread_get W m hm bs I h, hi, hs]
theorem take_map_succ (f : Int → Int) (sp : List Int) (I : Nat) (h : I < sp.length) : (sp.take (I + 1)).map f = (sp.take I).map f ++ [f (sp.getD I 0)] := by
  rw [List.take_add_one, List.map_append, List.getD_eq_getElem?_getD, List.getElem?_eq_getElem h]
  rfl

set_option maxRecDepth 1000000 in
set_option maxHeartbeats 2000000 in
theorem dpacked_1 (q b g : Nat) (X : Array Value) (l bs Z : List Int) (w : World) (hL : Lefts w q b bs) (hX : IsPal X l) (hn : l.length ≤ 17) (hk : AreKinds l) (hG : Blk w g 61 Z) (hZ : Z.length = 32768) (hqg : q < g) (hW : wid l.length = 1) :
    Calls Try.prog 45 #[.pointer (some ⟨q, 0, none⟩), .agg X, .pointer (some ⟨g, 0, none⟩)] w (ReadSay (packD l 1 bs) q b g w) := by
  have hq := hL.lt
  have hg := hG.lt
  have hXs := hX.size
  have HX : Hid (IsPal X l) := hX
  have HF : Hid (∀ (E : Int) w', E ≠ 0 → packD l 1 bs = (E, []) → Below q w w' → ReadSay (packD l 1 bs) q b g w (gives E) w') := fun E w' h1 h2 h3 => ⟨h3, Or.inl ⟨E, h1, h2, rfl⟩⟩
  have HT : Hid (∀ w' out rest, out.length = 32768 → packD l 1 bs = (if rest = [] then (0, out) else (2, [])) → Blk w' g 61 out → Lefts w' q b rest → Below q w w' → ReadSay (packD l 1 bs) q b g w (.returned (.tuple #[])) w') := fun w' out rest h1 h2 h3 h4 h5 => ⟨h5, Or.inr ⟨out, rest, h1, h2, rfl, h3, h4⟩⟩
  obtain ⟨Post, hPost⟩ : ∃ Post, Post = ReadSay (packD l 1 bs) q b g w := ⟨_, rfl⟩
  rw [← hPost]
  have HP : Hid (Post = ReadSay (packD l 1 bs) q b g w) := hPost
  clear hPost
  have Hw1 : Hid (Below w.heap.size w (w.alloc (.cells X 48))) := (Below.refl _ _).alloc (Nat.le_refl _) _
  have hsz := World.size_alloc w (.cells X 48)
  have HWc : Hid (Calls Try.prog 25 #[.agg X] (w.alloc (.cells X 48)) fun e w' => e = .returned (.int .i64 1) ∧ Below (w.heap.size + 1) (w.alloc (.cells X 48)) w') := by
    have := width_c X l (w.alloc (.cells X 48)) hX hn
    rw [hW, hsz] at this
    exact this
  have HS0 : Hid (Stand (w.alloc (.cells X 48)) g ([] : List Int)) := ⟨Z, hG.below Hw1.out hg, hZ, rfl⟩
  have HL0 : Hid (Lefts (w.alloc (.cells X 48)) q b bs) := hL.below Hw1.out hq
  have HB0 : Hid (Below q w (w.alloc (.cells X 48))) := Hw1.out.mono (Nat.le_of_lt hq)
  clear hL hX hG hZ Hw1 hsz hW
  go_enter Try.func45, Try.ntmps45
  go_wp2_with (refine wpList_load_pal rfl (.tmp 4) rfl w.heap.size X rfl (heap_alloc_new w _) hXs ?_)
  refine HWc.out.mono ?_
  clear HWc
  rintro _ w2 ⟨rfl, hb2⟩
  have HX2 : Hid (w2.heap[w.heap.size]? = some (.cells X 48 (0, 0))) := (hb2.block _ (by omega)).trans (heap_alloc_new w _)
  have HS2 : Hid (Stand w2 g ([] : List Int)) := by
    obtain ⟨cs, hC, h2, h3⟩ := HS0.out
    exact ⟨cs, hC.below hb2 (by omega), h2, h3⟩
  have HL2 : Hid (Lefts w2 q b bs) := HL0.out.below hb2 (by omega)
  have Hb2 : Hid (Below q w w2) := HB0.out.trans (hb2.mono (by omega))
  clear HS0 HL0 HB0 hb2
  have hs := size_c 1 w2 (by omega)
  go_wp2_with fail
  refine hs.mono ?_
  clear hs
  rintro _ w9 ⟨rfl, e9⟩
  rw [e9]
  clear e9 w9
  by_cases hlen : bs.length < 4096
  · have R : Post (gives 3) w2 := by rw [HP.out]; exact HF.out 3 w2 (by omega) (packD_short (by omega)) Hb2.out
    have HTk : Hid (Calls Try.prog 41 #[.pointer (some ⟨q, 0, none⟩), .int .i64 4096] w2 fun e w' => e = gives 3 ∧ w' = w2) := ltake_no q b 4096 bs w2 HL2.out hlen
    clear HF HT HP HX2 HS2 HL2 Hb2
    go_wp2_with fail
    refine HTk.out.mono ?_
    rintro _ _ ⟨rfl, rfl⟩
    go_wp2
    exact ⟨rfl, R⟩
  · have HTk : Hid (Calls Try.prog 41 #[.pointer (some ⟨q, 0, none⟩), .int .i64 4096] w2 fun e w' => (∃ off c, e = .returned (.slice (some ⟨b, off, none⟩) 4096 c) ∧ Bytes w' (some ⟨b, off, none⟩) 4096 (bs.take 4096) ∧ b < q) ∧ Lefts w' q b (bs.drop 4096) ∧ Only q w2 w') := ltake_yes q b 4096 bs w2 HL2.out (by omega) (by omega)
    obtain ⟨sp, hsp⟩ : ∃ sp, sp = spread 1 8 (bs.take 4096) := ⟨_, rfl⟩
    have htl : (bs.take 4096).length = 4096 := by rw [List.length_take]; omega
    have HSl : Hid (sp.length = 32768) := by show _ = _; rw [hsp, spread_len, htl]
    have HSg : Hid (∀ I, I < 32768 → sp.getD I 0 = (bs.take 4096).getD (I / 8) 0 / 2 ^ (I % 8) % 2 ^ 1) := fun I hI => by
      rw [hsp]
      exact sp_get (by omega) (by rw [htl]; omega) (by omega) (by omega)
    have HF4 : Hid (∀ p ∈ sp, (l.length : Int) ≤ p → packD l 1 bs = (4, [])) := fun p hp h => packD_bad (w := 1) (by omega) (by rw [hsp] at hp; exact hp) h
    have HE : Hid ((∀ p ∈ sp, p < (l.length : Int)) → packD l 1 bs = if bs.drop 4096 = [] then (0, sp.map fun p => l.getD p.toNat 0) else (2, [])) := fun h => by
      rw [packD_end (w := 1) (by omega) (by rw [hsp] at h; exact h), hsp]
      by_cases e : bs.drop 4096 = []
      · rw [if_pos e, if_neg (by rw [List.drop_eq_nil_iff] at e; omega)]
      · rw [if_neg e, if_pos (by rw [List.drop_eq_nil_iff] at e; omega)]
    clear hsp htl hlen HL2
    go_wp2_with fail
    refine HTk.out.mono ?_
    clear HTk
    rintro _ w3 ⟨⟨o3, c3, rfl, hB3, hbq⟩, hL3, hO3⟩
    have HB3 : Hid (Bytes w3 (some ⟨b, o3, none⟩) 4096 (bs.take 4096)) := hB3
    have HL3 : Hid (Lefts w3 q b (bs.drop 4096)) := hL3
    have HX3 : Hid (w3.heap[w.heap.size]? = some (.cells X 48 (0, 0))) := (hO3.block _ (by omega)).trans HX2.out
    have HS3 : Hid (Stand w3 g ([] : List Int)) := by
      obtain ⟨cs, hC, h2, h3⟩ := HS2.out
      exact ⟨cs, hC.only hO3 (by omega), h2, h3⟩
    have Hb3 : Hid (Below q w w3) := Hb2.out.trans (hO3.below (Nat.le_refl _))
    clear hB3 hL3 hO3 HX2 HS2 Hb2
    go_wp2
    go_loopw [17] (fun v17 wr => ∃ (I : Nat), I ≤ 32768 ∧ v17 = .int .i64 (I : Int) ∧ Hid (Stand wr g ((sp.take I).map fun p => l.getD p.toNat 0)) ∧ Hid (Lefts wr q b (bs.drop 4096)) ∧ Hid (wr.heap[w.heap.size]? = some (.cells X 48 (0, 0))) ∧ Hid (Below q w wr) ∧ Hid (Bytes wr (some ⟨b, o3, none⟩) 4096 (bs.take 4096)) ∧ Hid (∀ p ∈ sp.take I, p < (l.length : Int))) (fun v _ => 32768 - (intOf v).toNat)
    case atStart => exact ⟨0, by omega, rfl, HS3, HL3, HX3, Hb3, HB3, fun p hp => by simp at hp⟩
    case round =>
      obtain ⟨I, hI, rfl, HS, HL, HXr, Hb, HB, HA⟩ := hrel
      clear HS3 HL3 HX3 Hb3 HB3
      by_cases hlt : I < 32768
      · have hlt' : (I : Int) < 32768 := by omega
        obtain ⟨b4, o4, x, e1, cx, x0, x1, hJl, hx⟩ := HB.out.get (I / 8) (by omega)
        cases e1
        have hxe : x = (bs.take 4096).getD (I / 8) 0 := by rw [List.getD_eq_getElem?_getD, List.getElem?_eq_getElem hJl, hx]; rfl
        have hd0 : (0 : Int) ≤ x / 2 ^ (I % 8) ∧ x / 2 ^ (I % 8) ≤ 255 := ⟨Int.ediv_nonneg x0 (Int.le_of_lt (Int.pow_pos (by omega))), Int.le_trans (Int.ediv_le_self _ x0) x1⟩
        have hand : bits .and .i64 (x / 2 ^ (I % 8)) 1 = (x / 2 ^ (I % 8)) % 2 := and_low _ 1 hd0.1 (by omega) (by omega)
        have hsg := HSg.out I hlt
        rw [← hxe] at hsg
        obtain ⟨P, hP⟩ := Int.eq_ofNat_of_zero_le (Int.emod_nonneg (x / 2 ^ (I % 8)) (show (2 : Int) ≠ 0 by omega))
        rw [hP] at hand
        have Hs : Hid (sp.getD I 0 = (P : Int)) := by
          show _ = _
          rw [hsg, ← hP]
          rfl
        have HPb : Hid ((P : Int) ≤ 255) := by
          have := Int.emod_lt_of_pos (x / 2 ^ (I % 8)) (show (0 : Int) < 2 by omega)
          show (P : Int) ≤ 255
          omega
        clear hx hJl hxe hsg hP hd0
        by_cases hfar : l.length ≤ P
        · have HR : Hid (∀ w', Below q w w' → Post (gives 4) w') := fun w' h => by
            rw [HP.out]
            exact HF.out 4 w' (by omega) (HF4.out (P : Int) (by rw [← Hs.out]; exact getD_mem (by rw [HSl.out]; exact hlt)) (by omega)) h
          have hL := HL.out.lt
          have HK : Hid (∀ w, Calls Try.prog 49 #[.agg X, .int .i64 (P : Int)] w fun e w' => e = gives 4 ∧ Below w.heap.size w w') := fun w => kind_no X l P w HX.out (by omega)
          have HqL : Hid (q < wr.heap.size) := hL
          clear HF HT HP HF4 HE HS HB HA HX Hs HPb hL
          go_wp2_with fail
          go_big_quiet (fail)
          go_wp2_with (refine wpList_load_pal rfl (.tmp 4) rfl w.heap.size X rfl (by exact HXr.out) hXs ?_)
          refine (HK.out _).mono ?_
          clear HK
          rintro _ w5 ⟨rfl, hb5⟩
          have R := HR.out w5 ((below_drewN Hb.out _).trans (hb5.mono (Nat.le_of_lt HqL.out)))
          clear HR hb5
          go_wp2
          exact ⟨rfl, R⟩
        · have hPl : P < l.length := by omega
          have HKx : Hid (0 ≤ l.getD P 0 ∧ l.getD P 0 ≤ 16) := hk _ (getD_mem hPl)
          have HK : Hid (∀ w, Calls Try.prog 49 #[.agg X, .int .i64 (P : Int)] w fun e w' => e = .returned (.int .i64 (l.getD P 0)) ∧ Below w.heap.size w w') := fun w => kind_yes X l P w HX.out hn hPl ⟨HKx.out.1, by have := HKx.out.2; omega⟩
          have HA2 : Hid (∀ p ∈ sp.take (I + 1), p < (l.length : Int)) := fun p hp => by
            rw [List.take_add_one, List.mem_append] at hp
            rcases hp with hp | hp
            · exact HA.out p hp
            · have hI2 : I < sp.length := by rw [HSl.out]; exact hlt
              have h3 := Hs.out
              rw [List.getD_eq_getElem?_getD, List.getElem?_eq_getElem hI2, Option.getD_some] at h3
              rw [List.getElem?_eq_getElem hI2, Option.toList_some, List.mem_singleton, h3] at hp
              omega
          have HM : Hid ((sp.take (I + 1)).map (fun p => l.getD p.toNat 0) = (sp.take I).map (fun p => l.getD p.toNat 0) ++ [l.getD P 0]) := by
            show _ = _
            rw [take_map_succ _ sp I (by rw [HSl.out]; exact hlt), Hs.out, Int.toNat_natCast]
          have HML : Hid (((sp.take I).map (fun p => l.getD p.toNat 0)).length = I) := by show _ = _; rw [List.length_map, List.length_take, HSl.out]; omega
          obtain ⟨y, hy⟩ : ∃ y, y = l.getD P 0 := ⟨_, rfl⟩
          rw [← hy] at HKx HK HM
          clear hy hfar hPl Hs HA
          have HLl : Hid (q < wr.heap.size) := HL.out.lt
          have HXl : Hid (w.heap.size < wr.heap.size) := (Array.getElem?_eq_some_iff.1 HXr.out).1
          go_wp2_with fail
          go_big_quiet (fail)
          go_wp2_with (refine wpList_load_pal rfl (.tmp 4) rfl w.heap.size X rfl (by exact HXr.out) hXs ?_)
          refine (HK.out _).mono ?_
          clear HK
          rintro _ w5 ⟨rfl, hb5⟩
          have hb5' : Below wr.heap.size wr w5 := ⟨hb5.os, hb5.tape, hb5.output, hb5.size, hb5.block⟩
          have hqr := HLl.out
          have hgr : g < wr.heap.size := by
            obtain ⟨cs, hC, _⟩ := HS.out
            exact hC.lt
          have HX5 : Hid (w5.heap[w.heap.size]? = some (.cells X 48 (0, 0))) := (hb5'.block _ HXl.out).trans HXr.out
          have HS5 : Hid (Stand w5 g ((sp.take I).map fun p => l.getD p.toNat 0)) := by
            obtain ⟨cs, hC, h2, h3⟩ := HS.out
            exact ⟨cs, hC.below hb5' hgr, h2, h3⟩
          have HL5 : Hid (Lefts w5 q b (bs.drop 4096)) := HL.out.below hb5' hqr
          have Hb5 : Hid (Below q w w5) := Hb.out.trans (hb5'.mono (Nat.le_of_lt hqr))
          have HB5 : Hid (Bytes w5 (some ⟨b, o3, none⟩) 4096 (bs.take 4096)) := HB.out.under hb5' (by omega)
          clear hb5 hb5' HX HS HL Hb HB HXr hqr hgr HLl HXl
          have HSet : Hid (Calls Try.prog 50 #[.pointer (some ⟨g, 0, none⟩), .int .i64 (I : Int), .int .i64 y] w5 fun e w' => e = .returned (.bool (okSet (I : Int) y)) ∧ Stand w' g ((sp.take (I + 1)).map fun p => l.getD p.toNat 0) ∧ Only g w5 w') := by
            obtain ⟨cs, hC, h2, h3⟩ := HS5.out
            rw [HML.out] at h3
            refine (set_c g cs (I : Int) y w5 hC h2).mono ?_
            rintro e w' ⟨h4, h5, h6⟩
            refine ⟨h4, ?_, h6⟩
            rw [HM.out]
            exact Stand.set (A := I) (N := 0) h2 HML.out h3 (by omega) (by simpa using h5) HKx.out
          clear HS5
          go_wp2_with fail
          refine HSet.out.mono ?_
          clear HSet
          rintro _ w6 ⟨rfl, hS6, hO6⟩
          have HS6 : Hid (Stand w6 g ((sp.take (I + 1)).map fun p => l.getD p.toNat 0)) := hS6
          have HL6 : Hid (Lefts w6 q b (bs.drop 4096)) := HL5.out.only hO6 hqg
          have HX6 : Hid (w6.heap[w.heap.size]? = some (.cells X 48 (0, 0))) := (hO6.block _ (by omega)).trans HX5.out
          have Hb6 : Hid (Below q w w6) := Hb5.out.trans (hO6.below (by omega))
          have HB6 : Hid (Bytes w6 (some ⟨b, o3, none⟩) 4096 (bs.take 4096)) := HB5.out.under (hO6.below (Nat.le_refl _)) (by omega)
          clear hS6 hO6 HL5 HX5 Hb5 HB5
          go_wp2
          go_roundw
          case rel => exact ⟨I + 1, by omega, by go_num, HS6, HL6, HX6, Hb6, HB6, HA2⟩
          case measure => simp [intOf]; omega
      · obtain rfl : I = 32768 := by omega
        have hlt' : ¬ (32768 : Int) < 32768 := by omega
        obtain ⟨cs, hC, hcl, htk⟩ := HS.out
        have htake : sp.take 32768 = sp := List.take_of_length_le (Nat.le_of_eq HSl.out)
        have R : Post (.returned (.tuple #[])) wr := by
          rw [HP.out]
          have ha := HA.out
          rw [htake] at ha htk
          rw [List.length_map, HSl.out, List.take_of_length_le (by omega)] at htk
          refine HT.out wr cs (bs.drop 4096) hcl ?_ hC HL.out Hb.out
          rw [HE.out ha, htk]
        clear HF HT HP HF4 HE HS HL HXr Hb HX hC hcl htk HA HB htake
        go_wp2
        go_end0
        exact R
set_option maxRecDepth 1000000 in
set_option maxHeartbeats 2000000 in
theorem dpacked_2 (q b g : Nat) (X : Array Value) (l bs Z : List Int) (w : World) (hL : Lefts w q b bs) (hX : IsPal X l) (hn : l.length ≤ 17) (hk : AreKinds l) (hG : Blk w g 61 Z) (hZ : Z.length = 32768) (hqg : q < g) (hW : wid l.length = 2) :
    Calls Try.prog 45 #[.pointer (some ⟨q, 0, none⟩), .agg X, .pointer (some ⟨g, 0, none⟩)] w (ReadSay (packD l 2 bs) q b g w) := by
  have hq := hL.lt
  have hg := hG.lt
  have hXs := hX.size
  have HX : Hid (IsPal X l) := hX
  have HF : Hid (∀ (E : Int) w', E ≠ 0 → packD l 2 bs = (E, []) → Below q w w' → ReadSay (packD l 2 bs) q b g w (gives E) w') := fun E w' h1 h2 h3 => ⟨h3, Or.inl ⟨E, h1, h2, rfl⟩⟩
  have HT : Hid (∀ w' out rest, out.length = 32768 → packD l 2 bs = (if rest = [] then (0, out) else (2, [])) → Blk w' g 61 out → Lefts w' q b rest → Below q w w' → ReadSay (packD l 2 bs) q b g w (.returned (.tuple #[])) w') := fun w' out rest h1 h2 h3 h4 h5 => ⟨h5, Or.inr ⟨out, rest, h1, h2, rfl, h3, h4⟩⟩
  obtain ⟨Post, hPost⟩ : ∃ Post, Post = ReadSay (packD l 2 bs) q b g w := ⟨_, rfl⟩
  rw [← hPost]
  have HP : Hid (Post = ReadSay (packD l 2 bs) q b g w) := hPost
  clear hPost
  have Hw1 : Hid (Below w.heap.size w (w.alloc (.cells X 48))) := (Below.refl _ _).alloc (Nat.le_refl _) _
  have hsz := World.size_alloc w (.cells X 48)
  have HWc : Hid (Calls Try.prog 25 #[.agg X] (w.alloc (.cells X 48)) fun e w' => e = .returned (.int .i64 2) ∧ Below (w.heap.size + 1) (w.alloc (.cells X 48)) w') := by
    have := width_c X l (w.alloc (.cells X 48)) hX hn
    rw [hW, hsz] at this
    exact this
  have HS0 : Hid (Stand (w.alloc (.cells X 48)) g ([] : List Int)) := ⟨Z, hG.below Hw1.out hg, hZ, rfl⟩
  have HL0 : Hid (Lefts (w.alloc (.cells X 48)) q b bs) := hL.below Hw1.out hq
  have HB0 : Hid (Below q w (w.alloc (.cells X 48))) := Hw1.out.mono (Nat.le_of_lt hq)
  clear hL hX hG hZ Hw1 hsz hW
  go_enter Try.func45, Try.ntmps45
  go_wp2_with (refine wpList_load_pal rfl (.tmp 4) rfl w.heap.size X rfl (heap_alloc_new w _) hXs ?_)
  refine HWc.out.mono ?_
  clear HWc
  rintro _ w2 ⟨rfl, hb2⟩
  have HX2 : Hid (w2.heap[w.heap.size]? = some (.cells X 48 (0, 0))) := (hb2.block _ (by omega)).trans (heap_alloc_new w _)
  have HS2 : Hid (Stand w2 g ([] : List Int)) := by
    obtain ⟨cs, hC, h2, h3⟩ := HS0.out
    exact ⟨cs, hC.below hb2 (by omega), h2, h3⟩
  have HL2 : Hid (Lefts w2 q b bs) := HL0.out.below hb2 (by omega)
  have Hb2 : Hid (Below q w w2) := HB0.out.trans (hb2.mono (by omega))
  clear HS0 HL0 HB0 hb2
  have hs := size_c 2 w2 (by omega)
  go_wp2_with fail
  refine hs.mono ?_
  clear hs
  rintro _ w9 ⟨rfl, e9⟩
  rw [e9]
  clear e9 w9
  by_cases hlen : bs.length < 8192
  · have R : Post (gives 3) w2 := by rw [HP.out]; exact HF.out 3 w2 (by omega) (packD_short (by omega)) Hb2.out
    have HTk : Hid (Calls Try.prog 41 #[.pointer (some ⟨q, 0, none⟩), .int .i64 8192] w2 fun e w' => e = gives 3 ∧ w' = w2) := ltake_no q b 8192 bs w2 HL2.out hlen
    clear HF HT HP HX2 HS2 HL2 Hb2
    go_wp2_with fail
    refine HTk.out.mono ?_
    rintro _ _ ⟨rfl, rfl⟩
    go_wp2
    exact ⟨rfl, R⟩
  · have HTk : Hid (Calls Try.prog 41 #[.pointer (some ⟨q, 0, none⟩), .int .i64 8192] w2 fun e w' => (∃ off c, e = .returned (.slice (some ⟨b, off, none⟩) 8192 c) ∧ Bytes w' (some ⟨b, off, none⟩) 8192 (bs.take 8192) ∧ b < q) ∧ Lefts w' q b (bs.drop 8192) ∧ Only q w2 w') := ltake_yes q b 8192 bs w2 HL2.out (by omega) (by omega)
    obtain ⟨sp, hsp⟩ : ∃ sp, sp = spread 2 4 (bs.take 8192) := ⟨_, rfl⟩
    have htl : (bs.take 8192).length = 8192 := by rw [List.length_take]; omega
    have HSl : Hid (sp.length = 32768) := by show _ = _; rw [hsp, spread_len, htl]
    have HSg : Hid (∀ I, I < 32768 → sp.getD I 0 = (bs.take 8192).getD (I * 2 / 8) 0 / 2 ^ (I * 2 % 8) % 2 ^ 2) := fun I hI => by
      rw [hsp]
      exact sp_get (by omega) (by rw [htl]; omega) (by omega) (by omega)
    have HF4 : Hid (∀ p ∈ sp, (l.length : Int) ≤ p → packD l 2 bs = (4, [])) := fun p hp h => packD_bad (w := 2) (by omega) (by rw [hsp] at hp; exact hp) h
    have HE : Hid ((∀ p ∈ sp, p < (l.length : Int)) → packD l 2 bs = if bs.drop 8192 = [] then (0, sp.map fun p => l.getD p.toNat 0) else (2, [])) := fun h => by
      rw [packD_end (w := 2) (by omega) (by rw [hsp] at h; exact h), hsp]
      by_cases e : bs.drop 8192 = []
      · rw [if_pos e, if_neg (by rw [List.drop_eq_nil_iff] at e; omega)]
      · rw [if_neg e, if_pos (by rw [List.drop_eq_nil_iff] at e; omega)]
    clear hsp htl hlen HL2
    go_wp2_with fail
    refine HTk.out.mono ?_
    clear HTk
    rintro _ w3 ⟨⟨o3, c3, rfl, hB3, hbq⟩, hL3, hO3⟩
    have HB3 : Hid (Bytes w3 (some ⟨b, o3, none⟩) 8192 (bs.take 8192)) := hB3
    have HL3 : Hid (Lefts w3 q b (bs.drop 8192)) := hL3
    have HX3 : Hid (w3.heap[w.heap.size]? = some (.cells X 48 (0, 0))) := (hO3.block _ (by omega)).trans HX2.out
    have HS3 : Hid (Stand w3 g ([] : List Int)) := by
      obtain ⟨cs, hC, h2, h3⟩ := HS2.out
      exact ⟨cs, hC.only hO3 (by omega), h2, h3⟩
    have Hb3 : Hid (Below q w w3) := Hb2.out.trans (hO3.below (Nat.le_refl _))
    clear hB3 hL3 hO3 HX2 HS2 Hb2
    go_wp2
    go_loopw [17] (fun v17 wr => ∃ (I : Nat), I ≤ 32768 ∧ v17 = .int .i64 (I : Int) ∧ Hid (Stand wr g ((sp.take I).map fun p => l.getD p.toNat 0)) ∧ Hid (Lefts wr q b (bs.drop 8192)) ∧ Hid (wr.heap[w.heap.size]? = some (.cells X 48 (0, 0))) ∧ Hid (Below q w wr) ∧ Hid (Bytes wr (some ⟨b, o3, none⟩) 8192 (bs.take 8192)) ∧ Hid (∀ p ∈ sp.take I, p < (l.length : Int))) (fun v _ => 32768 - (intOf v).toNat)
    case atStart => exact ⟨0, by omega, rfl, HS3, HL3, HX3, Hb3, HB3, fun p hp => by simp at hp⟩
    case round =>
      obtain ⟨I, hI, rfl, HS, HL, HXr, Hb, HB, HA⟩ := hrel
      clear HS3 HL3 HX3 Hb3 HB3
      by_cases hlt : I < 32768
      · have hlt' : (I : Int) < 32768 := by omega
        obtain ⟨b4, o4, x, e1, cx, x0, x1, hJl, hx⟩ := HB.out.get (I * 2 / 8) (by omega)
        cases e1
        have hxe : x = (bs.take 8192).getD (I * 2 / 8) 0 := by rw [List.getD_eq_getElem?_getD, List.getElem?_eq_getElem hJl, hx]; rfl
        have hd0 : (0 : Int) ≤ x / 2 ^ (I * 2 % 8) ∧ x / 2 ^ (I * 2 % 8) ≤ 255 := ⟨Int.ediv_nonneg x0 (Int.le_of_lt (Int.pow_pos (by omega))), Int.le_trans (Int.ediv_le_self _ x0) x1⟩
        have hand : bits .and .i64 (x / 2 ^ (I * 2 % 8)) 3 = (x / 2 ^ (I * 2 % 8)) % 4 := and_low _ 2 hd0.1 (by omega) (by omega)
        have hsg := HSg.out I hlt
        rw [← hxe] at hsg
        obtain ⟨P, hP⟩ := Int.eq_ofNat_of_zero_le (Int.emod_nonneg (x / 2 ^ (I * 2 % 8)) (show (4 : Int) ≠ 0 by omega))
        rw [hP] at hand
        have Hs : Hid (sp.getD I 0 = (P : Int)) := by
          show _ = _
          rw [hsg, ← hP]
          rfl
        have HPb : Hid ((P : Int) ≤ 255) := by
          have := Int.emod_lt_of_pos (x / 2 ^ (I * 2 % 8)) (show (0 : Int) < 4 by omega)
          show (P : Int) ≤ 255
          omega
        clear hx hJl hxe hsg hP hd0
        by_cases hfar : l.length ≤ P
        · have HR : Hid (∀ w', Below q w w' → Post (gives 4) w') := fun w' h => by
            rw [HP.out]
            exact HF.out 4 w' (by omega) (HF4.out (P : Int) (by rw [← Hs.out]; exact getD_mem (by rw [HSl.out]; exact hlt)) (by omega)) h
          have hL := HL.out.lt
          have HK : Hid (∀ w, Calls Try.prog 49 #[.agg X, .int .i64 (P : Int)] w fun e w' => e = gives 4 ∧ Below w.heap.size w w') := fun w => kind_no X l P w HX.out (by omega)
          have HqL : Hid (q < wr.heap.size) := hL
          clear HF HT HP HF4 HE HS HB HA HX Hs HPb hL
          go_wp2_with fail
          go_big_quiet (fail)
          go_wp2_with (refine wpList_load_pal rfl (.tmp 4) rfl w.heap.size X rfl (by exact HXr.out) hXs ?_)
          refine (HK.out _).mono ?_
          clear HK
          rintro _ w5 ⟨rfl, hb5⟩
          have R := HR.out w5 ((below_drewN Hb.out _).trans (hb5.mono (Nat.le_of_lt HqL.out)))
          clear HR hb5
          go_wp2
          exact ⟨rfl, R⟩
        · have hPl : P < l.length := by omega
          have HKx : Hid (0 ≤ l.getD P 0 ∧ l.getD P 0 ≤ 16) := hk _ (getD_mem hPl)
          have HK : Hid (∀ w, Calls Try.prog 49 #[.agg X, .int .i64 (P : Int)] w fun e w' => e = .returned (.int .i64 (l.getD P 0)) ∧ Below w.heap.size w w') := fun w => kind_yes X l P w HX.out hn hPl ⟨HKx.out.1, by have := HKx.out.2; omega⟩
          have HA2 : Hid (∀ p ∈ sp.take (I + 1), p < (l.length : Int)) := fun p hp => by
            rw [List.take_add_one, List.mem_append] at hp
            rcases hp with hp | hp
            · exact HA.out p hp
            · have hI2 : I < sp.length := by rw [HSl.out]; exact hlt
              have h3 := Hs.out
              rw [List.getD_eq_getElem?_getD, List.getElem?_eq_getElem hI2, Option.getD_some] at h3
              rw [List.getElem?_eq_getElem hI2, Option.toList_some, List.mem_singleton, h3] at hp
              omega
          have HM : Hid ((sp.take (I + 1)).map (fun p => l.getD p.toNat 0) = (sp.take I).map (fun p => l.getD p.toNat 0) ++ [l.getD P 0]) := by
            show _ = _
            rw [take_map_succ _ sp I (by rw [HSl.out]; exact hlt), Hs.out, Int.toNat_natCast]
          have HML : Hid (((sp.take I).map (fun p => l.getD p.toNat 0)).length = I) := by show _ = _; rw [List.length_map, List.length_take, HSl.out]; omega
          obtain ⟨y, hy⟩ : ∃ y, y = l.getD P 0 := ⟨_, rfl⟩
          rw [← hy] at HKx HK HM
          clear hy hfar hPl Hs HA
          have HLl : Hid (q < wr.heap.size) := HL.out.lt
          have HXl : Hid (w.heap.size < wr.heap.size) := (Array.getElem?_eq_some_iff.1 HXr.out).1
          go_wp2_with fail
          go_big_quiet (fail)
          go_wp2_with (refine wpList_load_pal rfl (.tmp 4) rfl w.heap.size X rfl (by exact HXr.out) hXs ?_)
          refine (HK.out _).mono ?_
          clear HK
          rintro _ w5 ⟨rfl, hb5⟩
          have hb5' : Below wr.heap.size wr w5 := ⟨hb5.os, hb5.tape, hb5.output, hb5.size, hb5.block⟩
          have hqr := HLl.out
          have hgr : g < wr.heap.size := by
            obtain ⟨cs, hC, _⟩ := HS.out
            exact hC.lt
          have HX5 : Hid (w5.heap[w.heap.size]? = some (.cells X 48 (0, 0))) := (hb5'.block _ HXl.out).trans HXr.out
          have HS5 : Hid (Stand w5 g ((sp.take I).map fun p => l.getD p.toNat 0)) := by
            obtain ⟨cs, hC, h2, h3⟩ := HS.out
            exact ⟨cs, hC.below hb5' hgr, h2, h3⟩
          have HL5 : Hid (Lefts w5 q b (bs.drop 8192)) := HL.out.below hb5' hqr
          have Hb5 : Hid (Below q w w5) := Hb.out.trans (hb5'.mono (Nat.le_of_lt hqr))
          have HB5 : Hid (Bytes w5 (some ⟨b, o3, none⟩) 8192 (bs.take 8192)) := HB.out.under hb5' (by omega)
          clear hb5 hb5' HX HS HL Hb HB HXr hqr hgr HLl HXl
          have HSet : Hid (Calls Try.prog 50 #[.pointer (some ⟨g, 0, none⟩), .int .i64 (I : Int), .int .i64 y] w5 fun e w' => e = .returned (.bool (okSet (I : Int) y)) ∧ Stand w' g ((sp.take (I + 1)).map fun p => l.getD p.toNat 0) ∧ Only g w5 w') := by
            obtain ⟨cs, hC, h2, h3⟩ := HS5.out
            rw [HML.out] at h3
            refine (set_c g cs (I : Int) y w5 hC h2).mono ?_
            rintro e w' ⟨h4, h5, h6⟩
            refine ⟨h4, ?_, h6⟩
            rw [HM.out]
            exact Stand.set (A := I) (N := 0) h2 HML.out h3 (by omega) (by simpa using h5) HKx.out
          clear HS5
          go_wp2_with fail
          refine HSet.out.mono ?_
          clear HSet
          rintro _ w6 ⟨rfl, hS6, hO6⟩
          have HS6 : Hid (Stand w6 g ((sp.take (I + 1)).map fun p => l.getD p.toNat 0)) := hS6
          have HL6 : Hid (Lefts w6 q b (bs.drop 8192)) := HL5.out.only hO6 hqg
          have HX6 : Hid (w6.heap[w.heap.size]? = some (.cells X 48 (0, 0))) := (hO6.block _ (by omega)).trans HX5.out
          have Hb6 : Hid (Below q w w6) := Hb5.out.trans (hO6.below (by omega))
          have HB6 : Hid (Bytes w6 (some ⟨b, o3, none⟩) 8192 (bs.take 8192)) := HB5.out.under (hO6.below (Nat.le_refl _)) (by omega)
          clear hS6 hO6 HL5 HX5 Hb5 HB5
          go_wp2
          go_roundw
          case rel => exact ⟨I + 1, by omega, by go_num, HS6, HL6, HX6, Hb6, HB6, HA2⟩
          case measure => simp [intOf]; omega
      · obtain rfl : I = 32768 := by omega
        have hlt' : ¬ (32768 : Int) < 32768 := by omega
        obtain ⟨cs, hC, hcl, htk⟩ := HS.out
        have htake : sp.take 32768 = sp := List.take_of_length_le (Nat.le_of_eq HSl.out)
        have R : Post (.returned (.tuple #[])) wr := by
          rw [HP.out]
          have ha := HA.out
          rw [htake] at ha htk
          rw [List.length_map, HSl.out, List.take_of_length_le (by omega)] at htk
          refine HT.out wr cs (bs.drop 8192) hcl ?_ hC HL.out Hb.out
          rw [HE.out ha, htk]
        clear HF HT HP HF4 HE HS HL HXr Hb HX hC hcl htk HA HB htake
        go_wp2
        go_end0
        exact R
set_option maxRecDepth 1000000 in
set_option maxHeartbeats 2000000 in
theorem dpacked_4 (q b g : Nat) (X : Array Value) (l bs Z : List Int) (w : World) (hL : Lefts w q b bs) (hX : IsPal X l) (hn : l.length ≤ 17) (hk : AreKinds l) (hG : Blk w g 61 Z) (hZ : Z.length = 32768) (hqg : q < g) (hW : wid l.length = 4) :
    Calls Try.prog 45 #[.pointer (some ⟨q, 0, none⟩), .agg X, .pointer (some ⟨g, 0, none⟩)] w (ReadSay (packD l 4 bs) q b g w) := by
  have hq := hL.lt
  have hg := hG.lt
  have hXs := hX.size
  have HX : Hid (IsPal X l) := hX
  have HF : Hid (∀ (E : Int) w', E ≠ 0 → packD l 4 bs = (E, []) → Below q w w' → ReadSay (packD l 4 bs) q b g w (gives E) w') := fun E w' h1 h2 h3 => ⟨h3, Or.inl ⟨E, h1, h2, rfl⟩⟩
  have HT : Hid (∀ w' out rest, out.length = 32768 → packD l 4 bs = (if rest = [] then (0, out) else (2, [])) → Blk w' g 61 out → Lefts w' q b rest → Below q w w' → ReadSay (packD l 4 bs) q b g w (.returned (.tuple #[])) w') := fun w' out rest h1 h2 h3 h4 h5 => ⟨h5, Or.inr ⟨out, rest, h1, h2, rfl, h3, h4⟩⟩
  obtain ⟨Post, hPost⟩ : ∃ Post, Post = ReadSay (packD l 4 bs) q b g w := ⟨_, rfl⟩
  rw [← hPost]
  have HP : Hid (Post = ReadSay (packD l 4 bs) q b g w) := hPost
  clear hPost
  have Hw1 : Hid (Below w.heap.size w (w.alloc (.cells X 48))) := (Below.refl _ _).alloc (Nat.le_refl _) _
  have hsz := World.size_alloc w (.cells X 48)
  have HWc : Hid (Calls Try.prog 25 #[.agg X] (w.alloc (.cells X 48)) fun e w' => e = .returned (.int .i64 4) ∧ Below (w.heap.size + 1) (w.alloc (.cells X 48)) w') := by
    have := width_c X l (w.alloc (.cells X 48)) hX hn
    rw [hW, hsz] at this
    exact this
  have HS0 : Hid (Stand (w.alloc (.cells X 48)) g ([] : List Int)) := ⟨Z, hG.below Hw1.out hg, hZ, rfl⟩
  have HL0 : Hid (Lefts (w.alloc (.cells X 48)) q b bs) := hL.below Hw1.out hq
  have HB0 : Hid (Below q w (w.alloc (.cells X 48))) := Hw1.out.mono (Nat.le_of_lt hq)
  clear hL hX hG hZ Hw1 hsz hW
  go_enter Try.func45, Try.ntmps45
  go_wp2_with (refine wpList_load_pal rfl (.tmp 4) rfl w.heap.size X rfl (heap_alloc_new w _) hXs ?_)
  refine HWc.out.mono ?_
  clear HWc
  rintro _ w2 ⟨rfl, hb2⟩
  have HX2 : Hid (w2.heap[w.heap.size]? = some (.cells X 48 (0, 0))) := (hb2.block _ (by omega)).trans (heap_alloc_new w _)
  have HS2 : Hid (Stand w2 g ([] : List Int)) := by
    obtain ⟨cs, hC, h2, h3⟩ := HS0.out
    exact ⟨cs, hC.below hb2 (by omega), h2, h3⟩
  have HL2 : Hid (Lefts w2 q b bs) := HL0.out.below hb2 (by omega)
  have Hb2 : Hid (Below q w w2) := HB0.out.trans (hb2.mono (by omega))
  clear HS0 HL0 HB0 hb2
  have hs := size_c 4 w2 (by omega)
  go_wp2_with fail
  refine hs.mono ?_
  clear hs
  rintro _ w9 ⟨rfl, e9⟩
  rw [e9]
  clear e9 w9
  by_cases hlen : bs.length < 16384
  · have R : Post (gives 3) w2 := by rw [HP.out]; exact HF.out 3 w2 (by omega) (packD_short (by omega)) Hb2.out
    have HTk : Hid (Calls Try.prog 41 #[.pointer (some ⟨q, 0, none⟩), .int .i64 16384] w2 fun e w' => e = gives 3 ∧ w' = w2) := ltake_no q b 16384 bs w2 HL2.out hlen
    clear HF HT HP HX2 HS2 HL2 Hb2
    go_wp2_with fail
    refine HTk.out.mono ?_
    rintro _ _ ⟨rfl, rfl⟩
    go_wp2
    exact ⟨rfl, R⟩
  · have HTk : Hid (Calls Try.prog 41 #[.pointer (some ⟨q, 0, none⟩), .int .i64 16384] w2 fun e w' => (∃ off c, e = .returned (.slice (some ⟨b, off, none⟩) 16384 c) ∧ Bytes w' (some ⟨b, off, none⟩) 16384 (bs.take 16384) ∧ b < q) ∧ Lefts w' q b (bs.drop 16384) ∧ Only q w2 w') := ltake_yes q b 16384 bs w2 HL2.out (by omega) (by omega)
    obtain ⟨sp, hsp⟩ : ∃ sp, sp = spread 4 2 (bs.take 16384) := ⟨_, rfl⟩
    have htl : (bs.take 16384).length = 16384 := by rw [List.length_take]; omega
    have HSl : Hid (sp.length = 32768) := by show _ = _; rw [hsp, spread_len, htl]
    have HSg : Hid (∀ I, I < 32768 → sp.getD I 0 = (bs.take 16384).getD (I * 4 / 8) 0 / 2 ^ (I * 4 % 8) % 2 ^ 4) := fun I hI => by
      rw [hsp]
      exact sp_get (by omega) (by rw [htl]; omega) (by omega) (by omega)
    have HF4 : Hid (∀ p ∈ sp, (l.length : Int) ≤ p → packD l 4 bs = (4, [])) := fun p hp h => packD_bad (w := 4) (by omega) (by rw [hsp] at hp; exact hp) h
    have HE : Hid ((∀ p ∈ sp, p < (l.length : Int)) → packD l 4 bs = if bs.drop 16384 = [] then (0, sp.map fun p => l.getD p.toNat 0) else (2, [])) := fun h => by
      rw [packD_end (w := 4) (by omega) (by rw [hsp] at h; exact h), hsp]
      by_cases e : bs.drop 16384 = []
      · rw [if_pos e, if_neg (by rw [List.drop_eq_nil_iff] at e; omega)]
      · rw [if_neg e, if_pos (by rw [List.drop_eq_nil_iff] at e; omega)]
    clear hsp htl hlen HL2
    go_wp2_with fail
    refine HTk.out.mono ?_
    clear HTk
    rintro _ w3 ⟨⟨o3, c3, rfl, hB3, hbq⟩, hL3, hO3⟩
    have HB3 : Hid (Bytes w3 (some ⟨b, o3, none⟩) 16384 (bs.take 16384)) := hB3
    have HL3 : Hid (Lefts w3 q b (bs.drop 16384)) := hL3
    have HX3 : Hid (w3.heap[w.heap.size]? = some (.cells X 48 (0, 0))) := (hO3.block _ (by omega)).trans HX2.out
    have HS3 : Hid (Stand w3 g ([] : List Int)) := by
      obtain ⟨cs, hC, h2, h3⟩ := HS2.out
      exact ⟨cs, hC.only hO3 (by omega), h2, h3⟩
    have Hb3 : Hid (Below q w w3) := Hb2.out.trans (hO3.below (Nat.le_refl _))
    clear hB3 hL3 hO3 HX2 HS2 Hb2
    go_wp2
    go_loopw [17] (fun v17 wr => ∃ (I : Nat), I ≤ 32768 ∧ v17 = .int .i64 (I : Int) ∧ Hid (Stand wr g ((sp.take I).map fun p => l.getD p.toNat 0)) ∧ Hid (Lefts wr q b (bs.drop 16384)) ∧ Hid (wr.heap[w.heap.size]? = some (.cells X 48 (0, 0))) ∧ Hid (Below q w wr) ∧ Hid (Bytes wr (some ⟨b, o3, none⟩) 16384 (bs.take 16384)) ∧ Hid (∀ p ∈ sp.take I, p < (l.length : Int))) (fun v _ => 32768 - (intOf v).toNat)
    case atStart => exact ⟨0, by omega, rfl, HS3, HL3, HX3, Hb3, HB3, fun p hp => by simp at hp⟩
    case round =>
      obtain ⟨I, hI, rfl, HS, HL, HXr, Hb, HB, HA⟩ := hrel
      clear HS3 HL3 HX3 Hb3 HB3
      by_cases hlt : I < 32768
      · have hlt' : (I : Int) < 32768 := by omega
        obtain ⟨b4, o4, x, e1, cx, x0, x1, hJl, hx⟩ := HB.out.get (I * 4 / 8) (by omega)
        cases e1
        have hxe : x = (bs.take 16384).getD (I * 4 / 8) 0 := by rw [List.getD_eq_getElem?_getD, List.getElem?_eq_getElem hJl, hx]; rfl
        have hd0 : (0 : Int) ≤ x / 2 ^ (I * 4 % 8) ∧ x / 2 ^ (I * 4 % 8) ≤ 255 := ⟨Int.ediv_nonneg x0 (Int.le_of_lt (Int.pow_pos (by omega))), Int.le_trans (Int.ediv_le_self _ x0) x1⟩
        have hand : bits .and .i64 (x / 2 ^ (I * 4 % 8)) 15 = (x / 2 ^ (I * 4 % 8)) % 16 := and_low _ 4 hd0.1 (by omega) (by omega)
        have hsg := HSg.out I hlt
        rw [← hxe] at hsg
        obtain ⟨P, hP⟩ := Int.eq_ofNat_of_zero_le (Int.emod_nonneg (x / 2 ^ (I * 4 % 8)) (show (16 : Int) ≠ 0 by omega))
        rw [hP] at hand
        have Hs : Hid (sp.getD I 0 = (P : Int)) := by
          show _ = _
          rw [hsg, ← hP]
          rfl
        have HPb : Hid ((P : Int) ≤ 255) := by
          have := Int.emod_lt_of_pos (x / 2 ^ (I * 4 % 8)) (show (0 : Int) < 16 by omega)
          show (P : Int) ≤ 255
          omega
        clear hx hJl hxe hsg hP hd0
        by_cases hfar : l.length ≤ P
        · have HR : Hid (∀ w', Below q w w' → Post (gives 4) w') := fun w' h => by
            rw [HP.out]
            exact HF.out 4 w' (by omega) (HF4.out (P : Int) (by rw [← Hs.out]; exact getD_mem (by rw [HSl.out]; exact hlt)) (by omega)) h
          have hL := HL.out.lt
          have HK : Hid (∀ w, Calls Try.prog 49 #[.agg X, .int .i64 (P : Int)] w fun e w' => e = gives 4 ∧ Below w.heap.size w w') := fun w => kind_no X l P w HX.out (by omega)
          have HqL : Hid (q < wr.heap.size) := hL
          clear HF HT HP HF4 HE HS HB HA HX Hs HPb hL
          go_wp2_with fail
          go_big_quiet (fail)
          go_wp2_with (refine wpList_load_pal rfl (.tmp 4) rfl w.heap.size X rfl (by exact HXr.out) hXs ?_)
          refine (HK.out _).mono ?_
          clear HK
          rintro _ w5 ⟨rfl, hb5⟩
          have R := HR.out w5 ((below_drewN Hb.out _).trans (hb5.mono (Nat.le_of_lt HqL.out)))
          clear HR hb5
          go_wp2
          exact ⟨rfl, R⟩
        · have hPl : P < l.length := by omega
          have HKx : Hid (0 ≤ l.getD P 0 ∧ l.getD P 0 ≤ 16) := hk _ (getD_mem hPl)
          have HK : Hid (∀ w, Calls Try.prog 49 #[.agg X, .int .i64 (P : Int)] w fun e w' => e = .returned (.int .i64 (l.getD P 0)) ∧ Below w.heap.size w w') := fun w => kind_yes X l P w HX.out hn hPl ⟨HKx.out.1, by have := HKx.out.2; omega⟩
          have HA2 : Hid (∀ p ∈ sp.take (I + 1), p < (l.length : Int)) := fun p hp => by
            rw [List.take_add_one, List.mem_append] at hp
            rcases hp with hp | hp
            · exact HA.out p hp
            · have hI2 : I < sp.length := by rw [HSl.out]; exact hlt
              have h3 := Hs.out
              rw [List.getD_eq_getElem?_getD, List.getElem?_eq_getElem hI2, Option.getD_some] at h3
              rw [List.getElem?_eq_getElem hI2, Option.toList_some, List.mem_singleton, h3] at hp
              omega
          have HM : Hid ((sp.take (I + 1)).map (fun p => l.getD p.toNat 0) = (sp.take I).map (fun p => l.getD p.toNat 0) ++ [l.getD P 0]) := by
            show _ = _
            rw [take_map_succ _ sp I (by rw [HSl.out]; exact hlt), Hs.out, Int.toNat_natCast]
          have HML : Hid (((sp.take I).map (fun p => l.getD p.toNat 0)).length = I) := by show _ = _; rw [List.length_map, List.length_take, HSl.out]; omega
          obtain ⟨y, hy⟩ : ∃ y, y = l.getD P 0 := ⟨_, rfl⟩
          rw [← hy] at HKx HK HM
          clear hy hfar hPl Hs HA
          have HLl : Hid (q < wr.heap.size) := HL.out.lt
          have HXl : Hid (w.heap.size < wr.heap.size) := (Array.getElem?_eq_some_iff.1 HXr.out).1
          go_wp2_with fail
          go_big_quiet (fail)
          go_wp2_with (refine wpList_load_pal rfl (.tmp 4) rfl w.heap.size X rfl (by exact HXr.out) hXs ?_)
          refine (HK.out _).mono ?_
          clear HK
          rintro _ w5 ⟨rfl, hb5⟩
          have hb5' : Below wr.heap.size wr w5 := ⟨hb5.os, hb5.tape, hb5.output, hb5.size, hb5.block⟩
          have hqr := HLl.out
          have hgr : g < wr.heap.size := by
            obtain ⟨cs, hC, _⟩ := HS.out
            exact hC.lt
          have HX5 : Hid (w5.heap[w.heap.size]? = some (.cells X 48 (0, 0))) := (hb5'.block _ HXl.out).trans HXr.out
          have HS5 : Hid (Stand w5 g ((sp.take I).map fun p => l.getD p.toNat 0)) := by
            obtain ⟨cs, hC, h2, h3⟩ := HS.out
            exact ⟨cs, hC.below hb5' hgr, h2, h3⟩
          have HL5 : Hid (Lefts w5 q b (bs.drop 16384)) := HL.out.below hb5' hqr
          have Hb5 : Hid (Below q w w5) := Hb.out.trans (hb5'.mono (Nat.le_of_lt hqr))
          have HB5 : Hid (Bytes w5 (some ⟨b, o3, none⟩) 16384 (bs.take 16384)) := HB.out.under hb5' (by omega)
          clear hb5 hb5' HX HS HL Hb HB HXr hqr hgr HLl HXl
          have HSet : Hid (Calls Try.prog 50 #[.pointer (some ⟨g, 0, none⟩), .int .i64 (I : Int), .int .i64 y] w5 fun e w' => e = .returned (.bool (okSet (I : Int) y)) ∧ Stand w' g ((sp.take (I + 1)).map fun p => l.getD p.toNat 0) ∧ Only g w5 w') := by
            obtain ⟨cs, hC, h2, h3⟩ := HS5.out
            rw [HML.out] at h3
            refine (set_c g cs (I : Int) y w5 hC h2).mono ?_
            rintro e w' ⟨h4, h5, h6⟩
            refine ⟨h4, ?_, h6⟩
            rw [HM.out]
            exact Stand.set (A := I) (N := 0) h2 HML.out h3 (by omega) (by simpa using h5) HKx.out
          clear HS5
          go_wp2_with fail
          refine HSet.out.mono ?_
          clear HSet
          rintro _ w6 ⟨rfl, hS6, hO6⟩
          have HS6 : Hid (Stand w6 g ((sp.take (I + 1)).map fun p => l.getD p.toNat 0)) := hS6
          have HL6 : Hid (Lefts w6 q b (bs.drop 16384)) := HL5.out.only hO6 hqg
          have HX6 : Hid (w6.heap[w.heap.size]? = some (.cells X 48 (0, 0))) := (hO6.block _ (by omega)).trans HX5.out
          have Hb6 : Hid (Below q w w6) := Hb5.out.trans (hO6.below (by omega))
          have HB6 : Hid (Bytes w6 (some ⟨b, o3, none⟩) 16384 (bs.take 16384)) := HB5.out.under (hO6.below (Nat.le_refl _)) (by omega)
          clear hS6 hO6 HL5 HX5 Hb5 HB5
          go_wp2
          go_roundw
          case rel => exact ⟨I + 1, by omega, by go_num, HS6, HL6, HX6, Hb6, HB6, HA2⟩
          case measure => simp [intOf]; omega
      · obtain rfl : I = 32768 := by omega
        have hlt' : ¬ (32768 : Int) < 32768 := by omega
        obtain ⟨cs, hC, hcl, htk⟩ := HS.out
        have htake : sp.take 32768 = sp := List.take_of_length_le (Nat.le_of_eq HSl.out)
        have R : Post (.returned (.tuple #[])) wr := by
          rw [HP.out]
          have ha := HA.out
          rw [htake] at ha htk
          rw [List.length_map, HSl.out, List.take_of_length_le (by omega)] at htk
          refine HT.out wr cs (bs.drop 16384) hcl ?_ hC HL.out Hb.out
          rw [HE.out ha, htk]
        clear HF HT HP HF4 HE HS HL HXr Hb HX hC hcl htk HA HB htake
        go_wp2
        go_end0
        exact R
set_option maxRecDepth 1000000 in
set_option maxHeartbeats 2000000 in
theorem dpacked_8 (q b g : Nat) (X : Array Value) (l bs Z : List Int) (w : World) (hL : Lefts w q b bs) (hX : IsPal X l) (hn : l.length ≤ 17) (hk : AreKinds l) (hG : Blk w g 61 Z) (hZ : Z.length = 32768) (hqg : q < g) (hW : wid l.length = 8) :
    Calls Try.prog 45 #[.pointer (some ⟨q, 0, none⟩), .agg X, .pointer (some ⟨g, 0, none⟩)] w (ReadSay (packD l 8 bs) q b g w) := by
  have hq := hL.lt
  have hg := hG.lt
  have hXs := hX.size
  have HX : Hid (IsPal X l) := hX
  have HF : Hid (∀ (E : Int) w', E ≠ 0 → packD l 8 bs = (E, []) → Below q w w' → ReadSay (packD l 8 bs) q b g w (gives E) w') := fun E w' h1 h2 h3 => ⟨h3, Or.inl ⟨E, h1, h2, rfl⟩⟩
  have HT : Hid (∀ w' out rest, out.length = 32768 → packD l 8 bs = (if rest = [] then (0, out) else (2, [])) → Blk w' g 61 out → Lefts w' q b rest → Below q w w' → ReadSay (packD l 8 bs) q b g w (.returned (.tuple #[])) w') := fun w' out rest h1 h2 h3 h4 h5 => ⟨h5, Or.inr ⟨out, rest, h1, h2, rfl, h3, h4⟩⟩
  obtain ⟨Post, hPost⟩ : ∃ Post, Post = ReadSay (packD l 8 bs) q b g w := ⟨_, rfl⟩
  rw [← hPost]
  have HP : Hid (Post = ReadSay (packD l 8 bs) q b g w) := hPost
  clear hPost
  have Hw1 : Hid (Below w.heap.size w (w.alloc (.cells X 48))) := (Below.refl _ _).alloc (Nat.le_refl _) _
  have hsz := World.size_alloc w (.cells X 48)
  have HWc : Hid (Calls Try.prog 25 #[.agg X] (w.alloc (.cells X 48)) fun e w' => e = .returned (.int .i64 8) ∧ Below (w.heap.size + 1) (w.alloc (.cells X 48)) w') := by
    have := width_c X l (w.alloc (.cells X 48)) hX hn
    rw [hW, hsz] at this
    exact this
  have HS0 : Hid (Stand (w.alloc (.cells X 48)) g ([] : List Int)) := ⟨Z, hG.below Hw1.out hg, hZ, rfl⟩
  have HL0 : Hid (Lefts (w.alloc (.cells X 48)) q b bs) := hL.below Hw1.out hq
  have HB0 : Hid (Below q w (w.alloc (.cells X 48))) := Hw1.out.mono (Nat.le_of_lt hq)
  clear hL hX hG hZ Hw1 hsz hW
  go_enter Try.func45, Try.ntmps45
  go_wp2_with (refine wpList_load_pal rfl (.tmp 4) rfl w.heap.size X rfl (heap_alloc_new w _) hXs ?_)
  refine HWc.out.mono ?_
  clear HWc
  rintro _ w2 ⟨rfl, hb2⟩
  have HX2 : Hid (w2.heap[w.heap.size]? = some (.cells X 48 (0, 0))) := (hb2.block _ (by omega)).trans (heap_alloc_new w _)
  have HS2 : Hid (Stand w2 g ([] : List Int)) := by
    obtain ⟨cs, hC, h2, h3⟩ := HS0.out
    exact ⟨cs, hC.below hb2 (by omega), h2, h3⟩
  have HL2 : Hid (Lefts w2 q b bs) := HL0.out.below hb2 (by omega)
  have Hb2 : Hid (Below q w w2) := HB0.out.trans (hb2.mono (by omega))
  clear HS0 HL0 HB0 hb2
  have hs := size_c 8 w2 (by omega)
  go_wp2_with fail
  refine hs.mono ?_
  clear hs
  rintro _ w9 ⟨rfl, e9⟩
  rw [e9]
  clear e9 w9
  by_cases hlen : bs.length < 32768
  · have R : Post (gives 3) w2 := by rw [HP.out]; exact HF.out 3 w2 (by omega) (packD_short (by omega)) Hb2.out
    have HTk : Hid (Calls Try.prog 41 #[.pointer (some ⟨q, 0, none⟩), .int .i64 32768] w2 fun e w' => e = gives 3 ∧ w' = w2) := ltake_no q b 32768 bs w2 HL2.out hlen
    clear HF HT HP HX2 HS2 HL2 Hb2
    go_wp2_with fail
    refine HTk.out.mono ?_
    rintro _ _ ⟨rfl, rfl⟩
    go_wp2
    exact ⟨rfl, R⟩
  · have HTk : Hid (Calls Try.prog 41 #[.pointer (some ⟨q, 0, none⟩), .int .i64 32768] w2 fun e w' => (∃ off c, e = .returned (.slice (some ⟨b, off, none⟩) 32768 c) ∧ Bytes w' (some ⟨b, off, none⟩) 32768 (bs.take 32768) ∧ b < q) ∧ Lefts w' q b (bs.drop 32768) ∧ Only q w2 w') := ltake_yes q b 32768 bs w2 HL2.out (by omega) (by omega)
    obtain ⟨sp, hsp⟩ : ∃ sp, sp = spread 8 1 (bs.take 32768) := ⟨_, rfl⟩
    have htl : (bs.take 32768).length = 32768 := by rw [List.length_take]; omega
    have HSl : Hid (sp.length = 32768) := by show _ = _; rw [hsp, spread_len, htl]
    have HSg : Hid (∀ I, I < 32768 → sp.getD I 0 = (bs.take 32768).getD (I) 0 / 2 ^ (0) % 2 ^ 8) := fun I hI => by
      rw [hsp]
      exact sp_get (by omega) (by rw [htl]; omega) (by omega) (by omega)
    have HF4 : Hid (∀ p ∈ sp, (l.length : Int) ≤ p → packD l 8 bs = (4, [])) := fun p hp h => packD_bad (w := 8) (by omega) (by rw [hsp] at hp; exact hp) h
    have HE : Hid ((∀ p ∈ sp, p < (l.length : Int)) → packD l 8 bs = if bs.drop 32768 = [] then (0, sp.map fun p => l.getD p.toNat 0) else (2, [])) := fun h => by
      rw [packD_end (w := 8) (by omega) (by rw [hsp] at h; exact h), hsp]
      by_cases e : bs.drop 32768 = []
      · rw [if_pos e, if_neg (by rw [List.drop_eq_nil_iff] at e; omega)]
      · rw [if_neg e, if_pos (by rw [List.drop_eq_nil_iff] at e; omega)]
    clear hsp htl hlen HL2
    go_wp2_with fail
    refine HTk.out.mono ?_
    clear HTk
    rintro _ w3 ⟨⟨o3, c3, rfl, hB3, hbq⟩, hL3, hO3⟩
    have HB3 : Hid (Bytes w3 (some ⟨b, o3, none⟩) 32768 (bs.take 32768)) := hB3
    have HL3 : Hid (Lefts w3 q b (bs.drop 32768)) := hL3
    have HX3 : Hid (w3.heap[w.heap.size]? = some (.cells X 48 (0, 0))) := (hO3.block _ (by omega)).trans HX2.out
    have HS3 : Hid (Stand w3 g ([] : List Int)) := by
      obtain ⟨cs, hC, h2, h3⟩ := HS2.out
      exact ⟨cs, hC.only hO3 (by omega), h2, h3⟩
    have Hb3 : Hid (Below q w w3) := Hb2.out.trans (hO3.below (Nat.le_refl _))
    clear hB3 hL3 hO3 HX2 HS2 Hb2
    go_wp2
    go_loopw [17] (fun v17 wr => ∃ (I : Nat), I ≤ 32768 ∧ v17 = .int .i64 (I : Int) ∧ Hid (Stand wr g ((sp.take I).map fun p => l.getD p.toNat 0)) ∧ Hid (Lefts wr q b (bs.drop 32768)) ∧ Hid (wr.heap[w.heap.size]? = some (.cells X 48 (0, 0))) ∧ Hid (Below q w wr) ∧ Hid (Bytes wr (some ⟨b, o3, none⟩) 32768 (bs.take 32768)) ∧ Hid (∀ p ∈ sp.take I, p < (l.length : Int))) (fun v _ => 32768 - (intOf v).toNat)
    case atStart => exact ⟨0, by omega, rfl, HS3, HL3, HX3, Hb3, HB3, fun p hp => by simp at hp⟩
    case round =>
      obtain ⟨I, hI, rfl, HS, HL, HXr, Hb, HB, HA⟩ := hrel
      clear HS3 HL3 HX3 Hb3 HB3
      by_cases hlt : I < 32768
      · have hlt' : (I : Int) < 32768 := by omega
        obtain ⟨b4, o4, x, e1, cx, x0, x1, hJl, hx⟩ := HB.out.get (I) (by omega)
        cases e1
        have hxe : x = (bs.take 32768).getD (I) 0 := by rw [List.getD_eq_getElem?_getD, List.getElem?_eq_getElem hJl, hx]; rfl
        have hd0 : (0 : Int) ≤ x ∧ x ≤ 255 := ⟨x0, x1⟩
        have hand : bits .and .i64 (x) 255 = (x) % 256 := and_low _ 8 hd0.1 (by omega) (by omega)
        have hsg := HSg.out I hlt
        rw [← hxe] at hsg
        obtain ⟨P, hP⟩ := Int.eq_ofNat_of_zero_le (Int.emod_nonneg (x) (show (256 : Int) ≠ 0 by omega))
        rw [hP] at hand
        have Hs : Hid (sp.getD I 0 = (P : Int)) := by
          show _ = _
          rw [hsg, ← hP]
          simp
        have HPb : Hid ((P : Int) ≤ 255) := by
          have := Int.emod_lt_of_pos (x) (show (0 : Int) < 256 by omega)
          show (P : Int) ≤ 255
          omega
        clear hx hJl hxe hsg hP hd0
        by_cases hfar : l.length ≤ P
        · have HR : Hid (∀ w', Below q w w' → Post (gives 4) w') := fun w' h => by
            rw [HP.out]
            exact HF.out 4 w' (by omega) (HF4.out (P : Int) (by rw [← Hs.out]; exact getD_mem (by rw [HSl.out]; exact hlt)) (by omega)) h
          have hL := HL.out.lt
          have HK : Hid (∀ w, Calls Try.prog 49 #[.agg X, .int .i64 (P : Int)] w fun e w' => e = gives 4 ∧ Below w.heap.size w w') := fun w => kind_no X l P w HX.out (by omega)
          have HqL : Hid (q < wr.heap.size) := hL
          clear HF HT HP HF4 HE HS HB HA HX Hs HPb hL
          go_wp2_with fail
          go_big_quiet (fail)
          go_wp2_with (refine wpList_load_pal rfl (.tmp 4) rfl w.heap.size X rfl (by exact HXr.out) hXs ?_)
          refine (HK.out _).mono ?_
          clear HK
          rintro _ w5 ⟨rfl, hb5⟩
          have R := HR.out w5 ((below_drewN Hb.out _).trans (hb5.mono (Nat.le_of_lt HqL.out)))
          clear HR hb5
          go_wp2
          exact ⟨rfl, R⟩
        · have hPl : P < l.length := by omega
          have HKx : Hid (0 ≤ l.getD P 0 ∧ l.getD P 0 ≤ 16) := hk _ (getD_mem hPl)
          have HK : Hid (∀ w, Calls Try.prog 49 #[.agg X, .int .i64 (P : Int)] w fun e w' => e = .returned (.int .i64 (l.getD P 0)) ∧ Below w.heap.size w w') := fun w => kind_yes X l P w HX.out hn hPl ⟨HKx.out.1, by have := HKx.out.2; omega⟩
          have HA2 : Hid (∀ p ∈ sp.take (I + 1), p < (l.length : Int)) := fun p hp => by
            rw [List.take_add_one, List.mem_append] at hp
            rcases hp with hp | hp
            · exact HA.out p hp
            · have hI2 : I < sp.length := by rw [HSl.out]; exact hlt
              have h3 := Hs.out
              rw [List.getD_eq_getElem?_getD, List.getElem?_eq_getElem hI2, Option.getD_some] at h3
              rw [List.getElem?_eq_getElem hI2, Option.toList_some, List.mem_singleton, h3] at hp
              omega
          have HM : Hid ((sp.take (I + 1)).map (fun p => l.getD p.toNat 0) = (sp.take I).map (fun p => l.getD p.toNat 0) ++ [l.getD P 0]) := by
            show _ = _
            rw [take_map_succ _ sp I (by rw [HSl.out]; exact hlt), Hs.out, Int.toNat_natCast]
          have HML : Hid (((sp.take I).map (fun p => l.getD p.toNat 0)).length = I) := by show _ = _; rw [List.length_map, List.length_take, HSl.out]; omega
          obtain ⟨y, hy⟩ : ∃ y, y = l.getD P 0 := ⟨_, rfl⟩
          rw [← hy] at HKx HK HM
          clear hy hfar hPl Hs HA
          have HLl : Hid (q < wr.heap.size) := HL.out.lt
          have HXl : Hid (w.heap.size < wr.heap.size) := (Array.getElem?_eq_some_iff.1 HXr.out).1
          go_wp2_with fail
          go_big_quiet (fail)
          go_wp2_with (refine wpList_load_pal rfl (.tmp 4) rfl w.heap.size X rfl (by exact HXr.out) hXs ?_)
          refine (HK.out _).mono ?_
          clear HK
          rintro _ w5 ⟨rfl, hb5⟩
          have hb5' : Below wr.heap.size wr w5 := ⟨hb5.os, hb5.tape, hb5.output, hb5.size, hb5.block⟩
          have hqr := HLl.out
          have hgr : g < wr.heap.size := by
            obtain ⟨cs, hC, _⟩ := HS.out
            exact hC.lt
          have HX5 : Hid (w5.heap[w.heap.size]? = some (.cells X 48 (0, 0))) := (hb5'.block _ HXl.out).trans HXr.out
          have HS5 : Hid (Stand w5 g ((sp.take I).map fun p => l.getD p.toNat 0)) := by
            obtain ⟨cs, hC, h2, h3⟩ := HS.out
            exact ⟨cs, hC.below hb5' hgr, h2, h3⟩
          have HL5 : Hid (Lefts w5 q b (bs.drop 32768)) := HL.out.below hb5' hqr
          have Hb5 : Hid (Below q w w5) := Hb.out.trans (hb5'.mono (Nat.le_of_lt hqr))
          have HB5 : Hid (Bytes w5 (some ⟨b, o3, none⟩) 32768 (bs.take 32768)) := HB.out.under hb5' (by omega)
          clear hb5 hb5' HX HS HL Hb HB HXr hqr hgr HLl HXl
          have HSet : Hid (Calls Try.prog 50 #[.pointer (some ⟨g, 0, none⟩), .int .i64 (I : Int), .int .i64 y] w5 fun e w' => e = .returned (.bool (okSet (I : Int) y)) ∧ Stand w' g ((sp.take (I + 1)).map fun p => l.getD p.toNat 0) ∧ Only g w5 w') := by
            obtain ⟨cs, hC, h2, h3⟩ := HS5.out
            rw [HML.out] at h3
            refine (set_c g cs (I : Int) y w5 hC h2).mono ?_
            rintro e w' ⟨h4, h5, h6⟩
            refine ⟨h4, ?_, h6⟩
            rw [HM.out]
            exact Stand.set (A := I) (N := 0) h2 HML.out h3 (by omega) (by simpa using h5) HKx.out
          clear HS5
          go_wp2_with fail
          refine HSet.out.mono ?_
          clear HSet
          rintro _ w6 ⟨rfl, hS6, hO6⟩
          have HS6 : Hid (Stand w6 g ((sp.take (I + 1)).map fun p => l.getD p.toNat 0)) := hS6
          have HL6 : Hid (Lefts w6 q b (bs.drop 32768)) := HL5.out.only hO6 hqg
          have HX6 : Hid (w6.heap[w.heap.size]? = some (.cells X 48 (0, 0))) := (hO6.block _ (by omega)).trans HX5.out
          have Hb6 : Hid (Below q w w6) := Hb5.out.trans (hO6.below (by omega))
          have HB6 : Hid (Bytes w6 (some ⟨b, o3, none⟩) 32768 (bs.take 32768)) := HB5.out.under (hO6.below (Nat.le_refl _)) (by omega)
          clear hS6 hO6 HL5 HX5 Hb5 HB5
          go_wp2
          go_roundw
          case rel => exact ⟨I + 1, by omega, by go_num, HS6, HL6, HX6, Hb6, HB6, HA2⟩
          case measure => simp [intOf]; omega
      · obtain rfl : I = 32768 := by omega
        have hlt' : ¬ (32768 : Int) < 32768 := by omega
        obtain ⟨cs, hC, hcl, htk⟩ := HS.out
        have htake : sp.take 32768 = sp := List.take_of_length_le (Nat.le_of_eq HSl.out)
        have R : Post (.returned (.tuple #[])) wr := by
          rw [HP.out]
          have ha := HA.out
          rw [htake] at ha htk
          rw [List.length_map, HSl.out, List.take_of_length_le (by omega)] at htk
          refine HT.out wr cs (bs.drop 32768) hcl ?_ hC HL.out Hb.out
          rw [HE.out ha, htk]
        clear HF HT HP HF4 HE HS HL HXr Hb HX hC hcl htk HA HB htake
        go_wp2
        go_end0
        exact R
theorem dpacked_c (q b g : Nat) (X : Array Value) (l bs Z : List Int) (w : World) (hL : Lefts w q b bs) (hX : IsPal X l) (hn : l.length ≤ 17) (hk : AreKinds l) (hG : Blk w g 61 Z) (hZ : Z.length = 32768) (hqg : q < g) :
    Calls Try.prog 45 #[.pointer (some ⟨q, 0, none⟩), .agg X, .pointer (some ⟨g, 0, none⟩)] w (ReadSay (packD l (wid l.length) bs) q b g w) := by
  rcases wid_is l.length with h | h | h | h <;> rw [h]
  · exact dpacked_1 q b g X l bs Z w hL hX hn hk hG hZ hqg h
  · exact dpacked_2 q b g X l bs Z w hL hX hn hk hG hZ hqg h
  · exact dpacked_4 q b g X l bs Z w hL hX hn hk hG hZ hqg h
  · exact dpacked_8 q b g X l bs Z w hL hX hn hk hG hZ hqg h
end Go.Proofs.Ytdkihhjhjfkjjaa
