/-
  RngStreamsSaid is proved: for every number of 64 bits, every three integers and every slice of integers the statement RngStreams returns true, without any condition.
-/
import Derived.Test.YtcefiejbfnakeaaFrame
namespace Go.Proofs.Ytcefiejbfnakeaa
open Go.ChangeShapes Go.WideShapes Go.ChangeAt Go.RowKit

/-- The two streams of the program and the one of the document, behind so many numbers. -/
structure Three (B gs gt gr K C : Nat) (w wr : World) : Prop where
  s : Strm 42 wr gs K C
  t : Strm 42 wr gt K C
  r : Strm 44 wr gr K C
  bs : B ≤ gs
  st : gs < gt
  tr : gt < gr
  below : Below B w wr
theorem Strm.only {T : Nat} {w w' : World} {g g' key count : Nat} (h : Strm T w g key count) (o : Only g' w w') (ne : g ≠ g') : Strm T w' g key count := h.of_block (o.block g ne)
theorem Strm.below {T B : Nat} {w w' : World} {g key count : Nat} (h : Strm T w g key count) (o : Below B w w') (lt : g < B) : Strm T w' g key count := h.of_block (o.block g lt)
theorem Only.cell {g : Nat} {w w' : World} (o : Only g w w') {b off : Nat} (ne : b ≠ g) : w'.cell? ⟨b, off, none⟩ = w.cell? ⟨b, off, none⟩ := World.cell?_of_block (w := w) (o.block b ne)
theorem Ints.lt {w : World} {b off len : Nat} {ls : List Int} (h : Ints w (some ⟨b, off, none⟩) len ls) (hk : 0 < len) : b < w.heap.size := by
  obtain ⟨b', off', z, e, hc, _⟩ := h.get (Below.refl _ _) 0 hk
  simp only [Option.some.injEq, Addr.mk.injEq] at e
  rw [e.1]
  exact World.block_lt_of_cell? w _ hc
theorem Three.go {B gs gt gr K C C' : Nat} {w w0 w1 w2 w3 : World} (h : Three B gs gt gr K C w w0) (s1 : Strm 42 w1 gs K C') (o1 : Only gs w0 w1) (t2 : Strm 42 w2 gt K C') (o2 : Only gt w1 w2) (r3 : Strm 44 w3 gr K C') (o3 : Only gr w2 w3) : Three B gs gt gr K C' w w3 :=
  have a := h.bs
  have b := h.st
  have c := h.tr
  ⟨(s1.only o2 (by omega)).only o3 (by omega), t2.only o3 (by omega), r3, h.bs, h.st, h.tr, ((h.below.trans (o1.below h.bs)).trans (o2.below (by omega))).trans (o3.below (by omega))⟩

set_option maxHeartbeats 2000000 in
theorem streams_walk (S : Nat) (a b d : Int) (p : Option Addr) (len cap : Nat) (ls : List Int) (w : World) (hS : S < 18446744073709551616) (hI : Ints w p len ls) (hbig : len ≤ 140737488355328) :
    Calls Try.prog 7 #[.int .u64 S, .int .i64 a, .int .i64 b, .int .i64 d, .slice p len cap] w fun e w' => e = .returned (.bool true) ∧ Below w.heap.size w w' := by
  have H : Hid (Ints w p len ls) := hI
  clear hI
  by_cases hl : 1000 < len
  · go_enter Try.func7, Try.ntmps7
    go_wp2_with (go_at_call 9; go_must (refine (awake_any _).mono ?_); rintro e w1 ⟨rfl, hb⟩)
    go_ret
    exact ⟨rfl, hb⟩
  · obtain ⟨K, eK⟩ : ∃ K, K = hashN S a b 0 d := ⟨_, rfl⟩
    have HK : Hid (K = hashN S a b 0 d) := eK
    clear eK
    go_enter Try.func7, Try.ntmps7
    go_wp2_with fail
    refine (awake_any _).mono ?_
    rintro e w1 ⟨rfl, hb⟩
    have H1 : Hid (Below w.heap.size w w1) := hb
    clear hb
    go_wp2_with fail
    refine (new_any S a b 0 d _ hS).mono ?_
    rw [← HK.out]
    rintro e w2 ⟨rfl, h1, h2⟩
    obtain ⟨gs, es⟩ : ∃ g, g = w1.heap.size := ⟨_, rfl⟩
    rw [← es] at h1 h2 ⊢
    have Hs : Hid (Strm 42 w2 gs K 0 ∧ w.heap.size ≤ gs ∧ Below w.heap.size w w2 ∧ gs < w2.heap.size) := ⟨h1, by rw [es]; exact H1.out.size, H1.out.trans (h2.mono (by rw [es]; exact H1.out.size)), h1.lt⟩
    clear h1 h2 es H1
    go_wp2_with fail
    refine (new_any S a b 0 d _ hS).mono ?_
    rw [← HK.out]
    rintro e w3 ⟨rfl, h1, h2⟩
    obtain ⟨gt, es⟩ : ∃ g, g = w2.heap.size := ⟨_, rfl⟩
    rw [← es] at h1 h2 ⊢
    obtain ⟨s1, s2, s3, s4⟩ := Hs.out
    rw [← es] at s4
    have Ht : Hid (Strm 42 w3 gs K 0 ∧ Strm 42 w3 gt K 0 ∧ w.heap.size ≤ gs ∧ gs < gt ∧ Below w.heap.size w w3 ∧ gt < w3.heap.size) := ⟨s1.below h2 s4, h1, s2, s4, s3.trans (h2.mono (by omega)), h1.lt⟩
    clear h1 h2 es s1 s2 s3 s4 Hs
    go_wp2_with fail
    refine (rnew_any S a b 0 d _ hS).mono ?_
    rw [← HK.out]
    rintro e w4 ⟨gr, rfl, hr, h1, h2⟩
    obtain ⟨s1, t1, s2, s3, s4, s5⟩ := Ht.out
    have HT : Hid (Three w.heap.size gs gt gr K 0 w w4) := ⟨s1.below h2 (by omega), t1.below h2 s5, h1, s2, s3, by omega, s4.trans (h2.mono (by omega))⟩
    clear h1 h2 hr s1 t1 s2 s3 s4 s5 Ht
    go_wp2
    go_loopw [15] (fun i wr => ∃ k : Nat, k ≤ len ∧ i = .int .i64 k ∧ Hid (Three w.heap.size gs gt gr K k w wr)) (fun i _ => len - (intOf i).toNat)
    case atStart => exact ⟨0, Nat.zero_le _, rfl, HT⟩
    case round =>
      obtain ⟨k, hk, rfl, HT⟩ := hrel
      by_cases hkl : k < len
      · obtain ⟨blk, off, z, rfl, hcell, hz, hkz, ez⟩ := H.out.get HT.out.below k hkl
        clear ez hkz
        have hC : k + 1 < 18446744073709551616 := by omega
        by_cases z0 : z = 0
        · subst z0
          go_wp2_with fail
          refine (next_any gs K k _ hC HT.out.s).mono ?_
          rintro e w5 ⟨rfl, s1, o1⟩
          have A1 : Hid (Strm 42 w5 gs K (k + 1)) := s1
          have A2 : Hid (Only gs wr w5) := o1
          have A3 : Hid (Strm 42 w5 gt K k) := HT.out.t.only o1 (by have := HT.out.st; omega)
          have A4 : Hid (Strm 44 w5 gr K k) := HT.out.r.only o1 (by have := HT.out.st; have := HT.out.tr; omega)
          clear s1 o1
          go_wp2_with fail
          refine (next_any gt K k _ hC A3.out).mono ?_
          rintro e w6 ⟨rfl, s1, o1⟩
          have B1 : Hid (Strm 42 w6 gt K (k + 1)) := s1
          have B2 : Hid (Only gt w5 w6) := o1
          have B3 : Hid (Strm 44 w6 gr K k) := A4.out.only o1 (by have := HT.out.tr; omega)
          clear s1 o1 A3 A4
          go_wp2_with fail
          refine (rnext_any gr K k _ hC B3.out).mono ?_
          rintro e w7 ⟨rfl, s1, o1⟩
          have HT2 : Hid (Three w.heap.size gs gt gr K (k + 1) w w7) := HT.out.go A1.out A2.out B1.out B2.out s1 o1
          clear s1 o1 A1 A2 B1 B2 B3 HT
          go_wp2
          go_roundw
          case rel => exact ⟨k + 1, by omega, by go_num, HT2⟩
          case measure => simp [intOf]; omega
        · have z1 : (z == 0) = false := by simpa using z0
          have Hz : Hid (-9223372036854775808 ≤ z ∧ z ≤ 9223372036854775807) := hz
          clear z0 hz
          go_wp2_with fail
          refine (sbelow_any gs K k z _ hC Hz.out HT.out.s).mono ?_
          rintro e w5 ⟨rfl, s1, o1⟩
          have A1 : Hid (Strm 42 w5 gs K (k + 1)) := s1
          have A2 : Hid (Only gs wr w5) := o1
          have A3 : Hid (Strm 42 w5 gt K k) := HT.out.t.only o1 (by have := HT.out.st; omega)
          have A4 : Hid (Strm 44 w5 gr K k) := HT.out.r.only o1 (by have := HT.out.st; have := HT.out.tr; omega)
          have hlt : blk < w.heap.size := H.out.lt (by omega)
          have Hlt : Hid (blk < w.heap.size) := hlt
          replace hcell : w5.cell? ⟨blk, off + k, none⟩ = some (.int .i64 z) := (o1.cell (by have := HT.out.bs; omega)).trans hcell
          clear s1 o1 hlt
          go_wp2_with fail
          refine (sbelow_any gt K k z _ hC Hz.out A3.out).mono ?_
          rintro e w6 ⟨rfl, s1, o1⟩
          have B1 : Hid (Strm 42 w6 gt K (k + 1)) := s1
          have B2 : Hid (Only gt w5 w6) := o1
          have B3 : Hid (Strm 44 w6 gr K k) := A4.out.only o1 (by have := HT.out.tr; omega)
          replace hcell : w6.cell? ⟨blk, off + k, none⟩ = some (.int .i64 z) := (o1.cell (by have := HT.out.bs; have := HT.out.st; have := Hlt.out; omega)).trans hcell
          clear s1 o1 A3 A4
          go_wp2_with fail
          refine (rsbelow_any gr K k z _ hC Hz.out B3.out).mono ?_
          rintro e w7 ⟨rfl, s1, o1⟩
          have HT2 : Hid (Three w.heap.size gs gt gr K (k + 1) w w7) := HT.out.go A1.out A2.out B1.out B2.out s1 o1
          clear s1 o1 A1 A2 B1 B2 B3 HT hcell
          go_wp2
          go_roundw
          case rel => exact ⟨k + 1, by omega, by go_num, HT2⟩
          case measure => simp [intOf]; omega
      · go_wp2
        go_ret
        exact ⟨rfl, HT.out.below⟩
theorem rngStreams_walk (x a b d : Int) (p : Option Addr) (len cap : Nat) (ls : List Int) (w : World) (hl : len ≤ 140737488355328) (hI : Ints w p len ls) (hx : 0 ≤ x ∧ x ≤ 18446744073709551615) :
    Calls Try.prog 7 #[.int .u64 x, .int .i64 a, .int .i64 b, .int .i64 d, .slice p len cap] w fun e w' => e = .returned (.bool true) ∧ Below w.heap.size w w' := by
  obtain ⟨S, rfl⟩ := Int.eq_ofNat_of_zero_le hx.1
  exact streams_walk S a b d p len cap ls w (by omega) hI hl

set_option maxRecDepth 100000 in
theorem rngStreams_lifted (os : Os) (started : os.Started) (H : Type) (enc : TypeId × Value → H) :
    ReturnsInHanded {} Try.checked os 7 .any (Rows.rngStreamsSpec.pre6 enc Try.prog Try.f7 Rows.rngStreamsRow.domain false) (Rows.rngStreamsSpec.post enc Try.prog Try.f7 false true false false) := by
  refine returnsInHanded_of_change_sized (C := Try.checked) own started (by kernel_rfl) Try.func7
    (ChangeSpec.witness6 (enc := enc) (C := Try.checked) false ⟨#[], #[.int .u64 0, .int .i64 0, .int .i64 0, .int .i64 0, .slice none 0 0], []⟩ 8 (by kernel_rfl) (by kernel_rfl) (by kernel_rfl) (by kernel_rfl)) ?_
  intro W base args ds gs before hval0 hW _ hsz0 _
  have hval : ∀ (j : Nat) t v, Try.f7.params[j]? = some t → args[j]? = some v → Value.okWide Try.prog W .any base t v := hval0
  have hsz : (DataW.weightsEach Try.prog (Try.f7.params.toList ++ Rows.rngStreamsSpec.plain.varTypes Try.prog) (ds ++ gs)).all (· ≤ reachBytes) = true := hsz0
  have hW' := hW
  obtain ⟨p, q, hA0, hV, rfl, hfz, hnd⟩ := hW
  have hA : DataW.TrodAll enc Try.prog W 0 (fun _ => true) true Try.f7.params.toList args.toList ds p := hA0
  rw [Try.params7] at hA hval hsz
  obtain ⟨v0, vs0, d0, ds0, p0, q0, hargs, rfl, rfl, h0, r0⟩ := trodAll_cons hA
  obtain ⟨v1, vs1, d1, ds1, p1, q1, rfl, rfl, rfl, h1, r1⟩ := trodAll_cons r0
  obtain ⟨v2, vs2, d2, ds2, p2, q2, rfl, rfl, rfl, h2, r2⟩ := trodAll_cons r1
  obtain ⟨v3, vs3, d3, ds3, p3, q3, rfl, rfl, rfl, h3, r3⟩ := trodAll_cons r2
  obtain ⟨v4, vs4, d4, ds4, p4, q4, rfl, rfl, rfl, h4, r4⟩ := trodAll_cons r3
  obtain ⟨rfl, rfl, rfl⟩ := trodAll_nil r4
  obtain rfl : args = #[v0, v1, v2, v3, v4] := by cases args; simp_all
  obtain ⟨rfl, rfl⟩ := trodVars_none hV
  obtain ⟨a0, rfl, rfl, rfl, w0⟩ := open_int Try.underlying22 (hval 0 22 v0 rfl rfl) h0
  obtain ⟨a1, rfl, rfl, rfl, w1⟩ := open_int Try.underlying3 (hval 1 3 v1 rfl rfl) h1
  obtain ⟨a2, rfl, rfl, rfl, w2⟩ := open_int Try.underlying3 (hval 2 3 v2 rfl rfl) h2
  obtain ⟨a3, rfl, rfl, rfl, w3⟩ := open_int Try.underlying3 (hval 3 3 v3 rfl rfl) h3
  obtain ⟨a4, len4, cap4, rfl⟩ := okWide_slice Try.underlying30 (hval 4 30 v4 rfl rfl)
  have k4 := h4
  have lt4 : ∀ x ∈ p4, x.block < W.heap.size := by obtain ⟨m, hm⟩ := k4; exact DataW.trod_lt m _ _ _ hm
  obtain ⟨z4, hr4, hb4⟩ : ∃ zs, IsRow .i64 W a4 len4 cap4 zs ∧ cap4 * Try.prog.bytesOf 3 ≤ 140737488351232 := by
    obtain ⟨fuel, hf⟩ := h4
    rcases open_ints Try.underlying30 Try.underlying3 (by kernel_rfl) hf with ⟨hcs, hx⟩ | ⟨x, l, c, zs, hcs, hlc, hl, hm, hz, hx, hcell, hwz⟩
    · simp [Value.cells] at hcs
      obtain ⟨rfl, rfl, rfl⟩ := hcs
      exact ⟨[], .inl ⟨rfl, rfl, rfl, rfl⟩, by simp⟩
    · simp [Value.cells] at hcs
      obtain ⟨rfl, rfl, rfl⟩ := hcs
      simp only [Prod.mk.injEq] at hx
      obtain ⟨rfl, _⟩ := hx
      have hs := sized_slice hsz (j := 4) (t := 30) (e := 3) rfl rfl Try.underlying30
      simp only [lits, List.length_map, List.length_take, List.length_drop, reachBytes] at hs
      refine ⟨zs, .inr ⟨_, rfl, hl, hm, by simpa using hz, hcell, hwz⟩, ?_⟩
      have hz2 : zs.length = cap4 := by simpa using hz
      refine Nat.le_trans (Nat.mul_le_mul_right _ ?_) hs
      omega
  clear hA0 hval0
  refine (rngStreams_walk a0 a1 a2 a3 a4 len4 cap4 (z4.take len4) W (by have := hr4.len; rw [bytes3] at hb4; omega) hr4.ints (bdu64 w0)).mono fun e W' ⟨he, bel⟩ => ?_
  subst he
  exact ⟨_, rfl, _, _, _, [], _, [], hW', trodAll_mk1 (shut_bool Try.underlying4 _), (trodAll_cons_mk (shut_int Try.underlying22 w0) (trodAll_cons_mk (shut_int Try.underlying3 w1) (trodAll_cons_mk (shut_int Try.underlying3 w2) (trodAll_cons_mk (shut_int Try.underlying3 w3) (trodAll_cons_mk (Below.trod laidOut (by kernel_rfl) (of_decide_eq_true (by kernel_rfl)) k4 bel lt4) trodAll_mk0))))), rfl, bel.frame _, fun h => by cases h⟩

theorem rngStreams_holds : Rows.RngStreamsSaid :=
  OpenClaim.holds_of_wide 7 Try.f7 rfl rfl rfl rfl rfl rfl rfl ⟨rfl, rfl, rfl, rfl, rfl⟩ rfl rfl rfl rfl rfl (by kernel_rfl) Try.func7 (by kernel_rfl)
    (of_decide_eq_true (by kernel_rfl)) (by unfold Func.isWrapper; rw [if_neg (of_decide_eq_false (by kernel_rfl))]; exact ⟨rfl, rfl⟩)
    (fun os started H enc _ => rngStreams_lifted os started H enc)
#print axioms rngStreams_holds
end Go.Proofs.Ytcefiejbfnakeaa
