/-
  RngPlacesSaid is proved: for every number of 64 bits, every integer and every two slices of integers the statement RngPlaces returns true, without any condition.
-/
import Derived.Test.YtcefiejbfnakeabFrame
namespace Go.Proofs.Ytcefiejbfnakeab
open Go.ChangeShapes Go.WideShapes Go.ChangeAt Go.RowKit

/-- The two streams, behind so many numbers. -/
structure Two (B gs gt K C : Nat) (w wr : World) : Prop where
  s : Strm 36 wr gs K C
  t : Strm 36 wr gt K C
  bs : B ≤ gs
  st : gs < gt
  below : Below B w wr
theorem Strm.only {T : Nat} {w w' : World} {g g' key count : Nat} (h : Strm T w g key count) (o : Only g' w w') (ne : g ≠ g') : Strm T w' g key count := h.of_block (o.block g ne)
theorem Strm.below {T B : Nat} {w w' : World} {g key count : Nat} (h : Strm T w g key count) (o : Below B w w') (lt : g < B) : Strm T w' g key count := h.of_block (o.block g lt)
theorem Only.cell {g : Nat} {w w' : World} (o : Only g w w') {b off : Nat} (ne : b ≠ g) : w'.cell? ⟨b, off, none⟩ = w.cell? ⟨b, off, none⟩ := World.cell?_of_block (w := w) (o.block b ne)
theorem Ints.lt {w : World} {b off len : Nat} {ls : List Int} (h : Ints w (some ⟨b, off, none⟩) len ls) (hk : 0 < len) : b < w.heap.size := by
  obtain ⟨b', off', z, e, hc, _⟩ := h.get (Below.refl _ _) 0 hk
  simp only [Option.some.injEq, Addr.mk.injEq] at e
  rw [e.1]
  exact World.block_lt_of_cell? w _ hc
theorem Two.go {B gs gt K C C' : Nat} {w w0 w1 w2 : World} (h : Two B gs gt K C w w0) (s1 : Strm 36 w1 gs K C') (o1 : Only gs w0 w1) (t2 : Strm 36 w2 gt K C') (o2 : Only gt w1 w2) : Two B gs gt K C' w w2 :=
  have a := h.bs
  have b := h.st
  ⟨s1.only o2 (by omega), t2, h.bs, h.st, (h.below.trans (o1.below h.bs)).trans (o2.below (by omega))⟩

set_option maxHeartbeats 1000000 in
theorem places_big (S : Nat) (a : Int) (p q : Option Addr) (len cap lem cam : Nat) (w : World) (hS : S < 18446744073709551616) (hl : 200 < len) :
    Calls Try.prog 4 #[.int .u64 S, .int .i64 a, .slice p len cap, .slice q lem cam] w fun e w' => e = .returned (.bool true) ∧ Below w.heap.size w w' := by
  obtain ⟨K, eK⟩ : ∃ K, K = hashN S a 1 2 3 := ⟨_, rfl⟩
  have HK : Hid (K = hashN S a 1 2 3) := eK
  clear eK
  go_enter Try.func4, Try.ntmps4
  go_wp2_with fail
  refine (awake_any _).mono ?_
  rintro e w1 ⟨rfl, hb⟩
  have H1 : Hid (Below w.heap.size w w1) := hb
  clear hb
  go_wp2_with fail
  refine (new_any S a 1 2 3 _ hS).mono ?_
  rw [← HK.out]
  rintro e w2 ⟨rfl, h1, h2⟩
  obtain ⟨gs, es⟩ : ∃ g, g = w1.heap.size := ⟨_, rfl⟩
  rw [← es] at h1 h2 ⊢
  have Hs : Hid (Strm 36 w2 gs K 0 ∧ w.heap.size ≤ gs ∧ Below w.heap.size w w2 ∧ gs < w2.heap.size) := ⟨h1, by rw [es]; exact H1.out.size, H1.out.trans (h2.mono (by rw [es]; exact H1.out.size)), h1.lt⟩
  clear h1 h2 es H1
  go_wp2_with fail
  refine (new_any S a 1 2 3 _ hS).mono ?_
  rw [← HK.out]
  rintro e w3 ⟨rfl, h1, h2⟩
  obtain ⟨gt, es⟩ : ∃ g, g = w2.heap.size := ⟨_, rfl⟩
  rw [← es] at h1 h2 ⊢
  obtain ⟨s1, s2, s3, s4⟩ := Hs.out
  rw [← es] at s4
  have HT : Hid (Two w.heap.size gs gt K 0 w w3) := ⟨s1.below h2 s4, h1, s2, s4, s3.trans (h2.mono (by omega))⟩
  clear h1 h2 es s1 s2 s3 s4 Hs
  go_wp2
  go_ret
  exact ⟨rfl, HT.out.below⟩
set_option maxHeartbeats 1000000 in
theorem places_few (S : Nat) (a : Int) (p q : Option Addr) (len cap lem cam : Nat) (w : World) (hS : S < 18446744073709551616) (hl : ¬ 200 < len) (hm : lem < len) :
    Calls Try.prog 4 #[.int .u64 S, .int .i64 a, .slice p len cap, .slice q lem cam] w fun e w' => e = .returned (.bool true) ∧ Below w.heap.size w w' := by
  obtain ⟨K, eK⟩ : ∃ K, K = hashN S a 1 2 3 := ⟨_, rfl⟩
  have HK : Hid (K = hashN S a 1 2 3) := eK
  clear eK
  go_enter Try.func4, Try.ntmps4
  go_wp2_with fail
  refine (awake_any _).mono ?_
  rintro e w1 ⟨rfl, hb⟩
  have H1 : Hid (Below w.heap.size w w1) := hb
  clear hb
  go_wp2_with fail
  refine (new_any S a 1 2 3 _ hS).mono ?_
  rw [← HK.out]
  rintro e w2 ⟨rfl, h1, h2⟩
  obtain ⟨gs, es⟩ : ∃ g, g = w1.heap.size := ⟨_, rfl⟩
  rw [← es] at h1 h2 ⊢
  have Hs : Hid (Strm 36 w2 gs K 0 ∧ w.heap.size ≤ gs ∧ Below w.heap.size w w2 ∧ gs < w2.heap.size) := ⟨h1, by rw [es]; exact H1.out.size, H1.out.trans (h2.mono (by rw [es]; exact H1.out.size)), h1.lt⟩
  clear h1 h2 es H1
  go_wp2_with fail
  refine (new_any S a 1 2 3 _ hS).mono ?_
  rw [← HK.out]
  rintro e w3 ⟨rfl, h1, h2⟩
  obtain ⟨gt, es⟩ : ∃ g, g = w2.heap.size := ⟨_, rfl⟩
  rw [← es] at h1 h2 ⊢
  obtain ⟨s1, s2, s3, s4⟩ := Hs.out
  rw [← es] at s4
  have HT : Hid (Two w.heap.size gs gt K 0 w w3) := ⟨s1.below h2 s4, h1, s2, s4, s3.trans (h2.mono (by omega))⟩
  clear h1 h2 es s1 s2 s3 s4 Hs
  go_wp2
  go_ret
  exact ⟨rfl, HT.out.below⟩
set_option maxHeartbeats 2000000 in
theorem places_in (S : Nat) (a : Int) (p q : Option Addr) (len cap lem cam : Nat) (ls ms : List Int) (w : World) (hS : S < 18446744073709551616) (hI : Ints w p len ls) (hJ : Ints w q lem ms) (hl : ¬ 200 < len) (hm : ¬ lem < len) :
    Calls Try.prog 4 #[.int .u64 S, .int .i64 a, .slice p len cap, .slice q lem cam] w fun e w' => e = .returned (.bool true) ∧ Below w.heap.size w w' := by
  have H : Hid (Ints w p len ls) := hI
  have J : Hid (Ints w q lem ms) := hJ
  clear hI hJ
  obtain ⟨K, eK⟩ : ∃ K, K = hashN S a 1 2 3 := ⟨_, rfl⟩
  have HK : Hid (K = hashN S a 1 2 3) := eK
  clear eK
  go_enter Try.func4, Try.ntmps4
  go_wp2_with fail
  refine (awake_any _).mono ?_
  rintro e w1 ⟨rfl, hb⟩
  have H1 : Hid (Below w.heap.size w w1) := hb
  clear hb
  go_wp2_with fail
  refine (new_any S a 1 2 3 _ hS).mono ?_
  rw [← HK.out]
  rintro e w2 ⟨rfl, h1, h2⟩
  obtain ⟨gs, es⟩ : ∃ g, g = w1.heap.size := ⟨_, rfl⟩
  rw [← es] at h1 h2 ⊢
  have Hs : Hid (Strm 36 w2 gs K 0 ∧ w.heap.size ≤ gs ∧ Below w.heap.size w w2 ∧ gs < w2.heap.size) := ⟨h1, by rw [es]; exact H1.out.size, H1.out.trans (h2.mono (by rw [es]; exact H1.out.size)), h1.lt⟩
  clear h1 h2 es H1
  go_wp2_with fail
  refine (new_any S a 1 2 3 _ hS).mono ?_
  rw [← HK.out]
  rintro e w3 ⟨rfl, h1, h2⟩
  obtain ⟨gt, es⟩ : ∃ g, g = w2.heap.size := ⟨_, rfl⟩
  rw [← es] at h1 h2 ⊢
  obtain ⟨s1, s2, s3, s4⟩ := Hs.out
  rw [← es] at s4
  have HT : Hid (Two w.heap.size gs gt K 0 w w3) := ⟨s1.below h2 s4, h1, s2, s4, s3.trans (h2.mono (by omega))⟩
  clear h1 h2 es s1 s2 s3 s4 Hs
  go_wp2
  go_loopw [12] (fun i wr => ∃ k : Nat, k ≤ len ∧ i = .int .i64 k ∧ Hid (Two w.heap.size gs gt K k w wr)) (fun i _ => len - (intOf i).toNat)
  case atStart => exact ⟨0, Nat.zero_le _, rfl, HT⟩
  case round =>
    obtain ⟨k, hk, rfl, HT⟩ := hrel
    have hC : k + 1 < 18446744073709551616 := by omega
    by_cases hkl : k < len
    · obtain ⟨blk, off, z, rfl, hcell, hz, hkz, ez⟩ := H.out.get HT.out.below k hkl
      obtain ⟨blm, ofm, y, rfl, hcelm, hy, hky, ey⟩ := J.out.get HT.out.below k (by omega)
      clear ez hkz ey hky
      have Hz : Hid (-9223372036854775808 ≤ z ∧ z ≤ 9223372036854775807) := hz
      have Hy : Hid (-9223372036854775808 ≤ y ∧ y ≤ 9223372036854775807) := hy
      clear hz hy
      have Hlt : Hid (blm < w.heap.size) := J.out.lt (by omega)
      have hkm : k < lem := by omega
      by_cases y0 : y = 0
      · subst y0
        go_wp2_with fail
        refine (sbelow_any gs K k z _ hC Hz.out HT.out.s).mono ?_
        rintro e w5 ⟨rfl, s1, o1⟩
        have A1 : Hid (Strm 36 w5 gs K (k + 1)) := s1
        have A2 : Hid (Only gs wr w5) := o1
        have A3 : Hid (Strm 36 w5 gt K k) := HT.out.t.only o1 (by have := HT.out.st; omega)
        replace hcelm : w5.cell? ⟨blm, ofm + k, none⟩ = some (.int .i64 0) := (o1.cell (by have := HT.out.bs; have := Hlt.out; omega)).trans hcelm
        clear s1 o1 hcell
        go_wp2_with fail
        refine (next_any gt K k _ hC A3.out).mono ?_
        rintro e w6 ⟨rfl, s1, o1⟩
        have HT2 : Hid (Two w.heap.size gs gt K (k + 1) w w6) := HT.out.go A1.out A2.out s1 o1
        clear s1 o1 A1 A2 A3 HT hcelm
        go_wp2
        go_roundw
        case rel => exact ⟨k + 1, by omega, by go_num, HT2⟩
        case measure => simp [intOf]; omega
      · have y1 : (y == 0) = false := by simpa using y0
        clear y0
        go_wp2_with fail
        refine (sbelow_any gs K k z _ hC Hz.out HT.out.s).mono ?_
        rintro e w5 ⟨rfl, s1, o1⟩
        have A1 : Hid (Strm 36 w5 gs K (k + 1)) := s1
        have A2 : Hid (Only gs wr w5) := o1
        have A3 : Hid (Strm 36 w5 gt K k) := HT.out.t.only o1 (by have := HT.out.st; omega)
        replace hcelm : w5.cell? ⟨blm, ofm + k, none⟩ = some (.int .i64 y) := (o1.cell (by have := HT.out.bs; have := Hlt.out; omega)).trans hcelm
        clear s1 o1 hcell
        go_wp2_with fail
        refine (sbelow_any gt K k y _ hC Hy.out A3.out).mono ?_
        rintro e w6 ⟨rfl, s1, o1⟩
        have HT2 : Hid (Two w.heap.size gs gt K (k + 1) w w6) := HT.out.go A1.out A2.out s1 o1
        clear s1 o1 A1 A2 A3 HT hcelm
        go_wp2
        go_roundw
        case rel => exact ⟨k + 1, by omega, by go_num, HT2⟩
        case measure => simp [intOf]; omega
    · go_wp2_with fail
      refine (next_any gs K k _ hC HT.out.s).mono ?_
      rintro e w5 ⟨rfl, s1, o1⟩
      have A1 : Hid (Strm 36 w5 gs K (k + 1)) := s1
      have A2 : Hid (Only gs wr w5) := o1
      have A3 : Hid (Strm 36 w5 gt K k) := HT.out.t.only o1 (by have := HT.out.st; omega)
      clear s1 o1
      go_wp2_with fail
      refine (next_any gt K k _ hC A3.out).mono ?_
      rintro e w6 ⟨rfl, s1, o1⟩
      have HT2 : Hid (Two w.heap.size gs gt K (k + 1) w w6) := HT.out.go A1.out A2.out s1 o1
      clear s1 o1 A1 A2 A3 HT
      go_wp2
      go_ret
      exact ⟨rfl, HT2.out.below⟩
theorem rngPlaces_walk (x a : Int) (p q : Option Addr) (len cap lem cam : Nat) (ls ms : List Int) (w : World) (hI : Ints w p len ls) (hJ : Ints w q lem ms) (hx : 0 ≤ x ∧ x ≤ 18446744073709551615) :
    Calls Try.prog 4 #[.int .u64 x, .int .i64 a, .slice p len cap, .slice q lem cam] w fun e w' => e = .returned (.bool true) ∧ Below w.heap.size w w' := by
  obtain ⟨S, rfl⟩ := Int.eq_ofNat_of_zero_le hx.1
  by_cases hl : 200 < len
  · exact places_big S a p q len cap lem cam w (by omega) hl
  by_cases hm : lem < len
  · exact places_few S a p q len cap lem cam w (by omega) hl hm
  · exact places_in S a p q len cap lem cam ls ms w (by omega) hI hJ hl hm

set_option maxRecDepth 100000 in
theorem rngPlaces_lifted (os : Os) (started : os.Started) (H : Type) (enc : TypeId × Value → H) :
    ReturnsInHanded {} Try.checked os 4 .any (Rows.rngPlacesSpec.pre6 enc Try.prog Try.f4 Rows.rngPlacesRow.domain false) (Rows.rngPlacesSpec.post enc Try.prog Try.f4 false true false false) := by
  refine returnsInHanded_of_change_sized (C := Try.checked) own started (by kernel_rfl) Try.func4
    (ChangeSpec.witness6 (enc := enc) (C := Try.checked) false ⟨#[], #[.int .u64 0, .int .i64 0, .slice none 0 0, .slice none 0 0], []⟩ 8 (by kernel_rfl) (by kernel_rfl) (by kernel_rfl) (by kernel_rfl)) ?_
  intro W base args ds gs before hval0 hW _ hsz0 _
  have hval : ∀ (j : Nat) t v, Try.f4.params[j]? = some t → args[j]? = some v → Value.okWide Try.prog W .any base t v := hval0
  have hsz : (DataW.weightsEach Try.prog (Try.f4.params.toList ++ Rows.rngPlacesSpec.plain.varTypes Try.prog) (ds ++ gs)).all (· ≤ reachBytes) = true := hsz0
  have hW' := hW
  obtain ⟨p, q, hA0, hV, rfl, hfz, hnd⟩ := hW
  have hA : DataW.TrodAll enc Try.prog W 0 (fun _ => true) true Try.f4.params.toList args.toList ds p := hA0
  rw [Try.params4] at hA hval hsz
  obtain ⟨v0, vs0, d0, ds0, p0, q0, hargs, rfl, rfl, h0, r0⟩ := trodAll_cons hA
  obtain ⟨v1, vs1, d1, ds1, p1, q1, rfl, rfl, rfl, h1, r1⟩ := trodAll_cons r0
  obtain ⟨v2, vs2, d2, ds2, p2, q2, rfl, rfl, rfl, h2, r2⟩ := trodAll_cons r1
  obtain ⟨v3, vs3, d3, ds3, p3, q3, rfl, rfl, rfl, h3, r3⟩ := trodAll_cons r2
  obtain ⟨rfl, rfl, rfl⟩ := trodAll_nil r3
  obtain rfl : args = #[v0, v1, v2, v3] := by cases args; simp_all
  obtain ⟨rfl, rfl⟩ := trodVars_none hV
  obtain ⟨a0, rfl, rfl, rfl, w0⟩ := open_int Try.underlying22 (hval 0 22 v0 rfl rfl) h0
  obtain ⟨a1, rfl, rfl, rfl, w1⟩ := open_int Try.underlying3 (hval 1 3 v1 rfl rfl) h1
  obtain ⟨a2, len2, cap2, rfl⟩ := okWide_slice Try.underlying27 (hval 2 27 v2 rfl rfl)
  have k2 := h2
  have lt2 : ∀ x ∈ p2, x.block < W.heap.size := by obtain ⟨m, hm⟩ := k2; exact DataW.trod_lt m _ _ _ hm
  obtain ⟨z2, hr2, hb2⟩ : ∃ zs, IsRow .i64 W a2 len2 cap2 zs ∧ cap2 * Try.prog.bytesOf 3 ≤ 140737488351232 := by
    obtain ⟨fuel, hf⟩ := h2
    rcases open_ints Try.underlying27 Try.underlying3 (by kernel_rfl) hf with ⟨hcs, hx⟩ | ⟨x, l, c, zs, hcs, hlc, hl, hm, hz, hx, hcell, hwz⟩
    · simp [Value.cells] at hcs
      obtain ⟨rfl, rfl, rfl⟩ := hcs
      exact ⟨[], .inl ⟨rfl, rfl, rfl, rfl⟩, by simp⟩
    · simp [Value.cells] at hcs
      obtain ⟨rfl, rfl, rfl⟩ := hcs
      simp only [Prod.mk.injEq] at hx
      obtain ⟨rfl, _⟩ := hx
      have hs := sized_slice hsz (j := 2) (t := 27) (e := 3) rfl rfl Try.underlying27
      simp only [lits, List.length_map, List.length_take, List.length_drop, reachBytes] at hs
      refine ⟨zs, .inr ⟨_, rfl, hl, hm, by simpa using hz, hcell, hwz⟩, ?_⟩
      have hz2 : zs.length = cap2 := by simpa using hz
      refine Nat.le_trans (Nat.mul_le_mul_right _ ?_) hs
      omega
  obtain ⟨a3, len3, cap3, rfl⟩ := okWide_slice Try.underlying27 (hval 3 27 v3 rfl rfl)
  have k3 := h3
  have lt3 : ∀ x ∈ p3, x.block < W.heap.size := by obtain ⟨m, hm⟩ := k3; exact DataW.trod_lt m _ _ _ hm
  obtain ⟨z3, hr3, hb3⟩ : ∃ zs, IsRow .i64 W a3 len3 cap3 zs ∧ cap3 * Try.prog.bytesOf 3 ≤ 140737488351232 := by
    obtain ⟨fuel, hf⟩ := h3
    rcases open_ints Try.underlying27 Try.underlying3 (by kernel_rfl) hf with ⟨hcs, hx⟩ | ⟨x, l, c, zs, hcs, hlc, hl, hm, hz, hx, hcell, hwz⟩
    · simp [Value.cells] at hcs
      obtain ⟨rfl, rfl, rfl⟩ := hcs
      exact ⟨[], .inl ⟨rfl, rfl, rfl, rfl⟩, by simp⟩
    · simp [Value.cells] at hcs
      obtain ⟨rfl, rfl, rfl⟩ := hcs
      simp only [Prod.mk.injEq] at hx
      obtain ⟨rfl, _⟩ := hx
      have hs := sized_slice hsz (j := 3) (t := 27) (e := 3) rfl rfl Try.underlying27
      simp only [lits, List.length_map, List.length_take, List.length_drop, reachBytes] at hs
      refine ⟨zs, .inr ⟨_, rfl, hl, hm, by simpa using hz, hcell, hwz⟩, ?_⟩
      have hz2 : zs.length = cap3 := by simpa using hz
      refine Nat.le_trans (Nat.mul_le_mul_right _ ?_) hs
      omega
  clear hA0 hval0
  refine (rngPlaces_walk a0 a1 a2 a3 len2 cap2 len3 cap3 (z2.take len2) (z3.take len3) W hr2.ints hr3.ints (bdu64 w0)).mono fun e W' ⟨he, bel⟩ => ?_
  subst he
  exact ⟨_, rfl, _, _, _, [], _, [], hW', trodAll_mk1 (shut_bool Try.underlying4 _), (trodAll_cons_mk (shut_int Try.underlying22 w0) (trodAll_cons_mk (shut_int Try.underlying3 w1) (trodAll_cons_mk (Below.trod laidOut (by kernel_rfl) (of_decide_eq_true (by kernel_rfl)) k2 bel lt2) (trodAll_cons_mk (Below.trod laidOut (by kernel_rfl) (of_decide_eq_true (by kernel_rfl)) k3 bel lt3) trodAll_mk0)))), rfl, bel.frame _, fun h => by cases h⟩

theorem rngPlaces_holds : Rows.RngPlacesSaid :=
  OpenClaim.holds_of_wide 4 Try.f4 rfl rfl rfl rfl rfl rfl rfl ⟨rfl, rfl, rfl, rfl, rfl⟩ rfl rfl rfl rfl rfl (by kernel_rfl) Try.func4 (by kernel_rfl)
    (of_decide_eq_true (by kernel_rfl)) (by unfold Func.isWrapper; rw [if_neg (of_decide_eq_false (by kernel_rfl))]; exact ⟨rfl, rfl⟩)
    (fun os started H enc _ => rngPlaces_lifted os started H enc)
#print axioms rngPlaces_holds
end Go.Proofs.Ytcefiejbfnakeab
