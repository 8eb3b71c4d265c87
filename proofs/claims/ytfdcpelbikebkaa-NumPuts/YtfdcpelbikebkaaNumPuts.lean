/-
  NumPutsSaid is proved: for every slice of bytes and every integer the statement NumPuts returns true, without any condition.
-/
import Derived.Test.YtfdcpelbikebkaaFrame
import Derived.Test.YtfdcpelbikebkaaOwn
namespace Go.Proofs.Ytfdcpelbikebkaa
open Go.ChangeShapes Go.WideShapes Go.ChangeAt Go.RowKit

theorem Bytes.lt {w : World} {a : Option Addr} {len : Nat} {xs : List Int} (h : Bytes w a len xs) (hp : 0 < xs.length) : ∀ b off, a = some ⟨b, off, none⟩ → b < w.heap.size := by
  intro b off e
  rcases h.cells with e' | ⟨b', off', e', hc⟩
  · subst e'; simp at hp
  · rw [e] at e'
    simp only [Option.some.injEq, Addr.mk.injEq] at e'
    obtain ⟨rfl, rfl, _⟩ := e'
    exact World.block_lt_of_cell? w _ (hc 0 hp)
/-- Bytes read as they did where only another block was written. -/
theorem Bytes.apart {w w' : World} {a : Option Addr} {len : Nat} {xs : List Int} (h : Bytes w a len xs) (g : Nat) (hk : ∀ k, k ≠ g → w'.heap[k]? = w.heap[k]?) (hg : 0 < xs.length → ∀ b off, a = some ⟨b, off, none⟩ → b ≠ g) : Bytes w' a len xs := by
  refine ⟨h.n, ?_, h.fit⟩
  rcases h.cells with e | ⟨b, off, e, hc⟩
  · exact .inl e
  · refine .inr ⟨b, off, e, fun k hkk => ?_⟩
    rw [World.cell?_of_block (w := w) (a := ⟨b, off + k, none⟩) (hk b (hg (by omega) b off e))]
    exact hc k hkk

set_option maxHeartbeats 1000000 in
theorem numPuts_walk (a : Option Addr) (len cap : Nat) (xs : List Int) (n : Int) (w : World) (hl : len ≤ 140737488351232) (h0 : -9223372036854775808 ≤ n) (h1 : n ≤ 9223372036854775807) (hB : Bytes w a len xs) (hnil : a = none → cap = 0) :
    Calls Try.prog 5 #[.slice a len cap, .int .i64 n] w fun e w' => e = .returned (.bool true) ∧ Below w.heap.size w w' := by
  have H : Hid (Bytes w a len xs) := hB
  have HN : Hid (a = none → cap = 0) := hnil
  clear hB hnil
  have hp9 : (putL n).length ≤ 9 := by
    by_cases hn : n < 0
    · simp [putL, hn]
    · rw [putL_len n (by omega) (by omega)]; exact (grp_spec n (by omega) (by omega)).2.1
  obtain ⟨G, hG⟩ : ∃ G, (putL n).length = G := ⟨_, rfl⟩
  rw [hG] at hp9
  have HG : Hid ((putL n).length = G) := hG
  have HF : Hid (∀ z ∈ xs ++ putL n, 0 ≤ z ∧ z ≤ 255) := fit_append H.out.fit (putL_fit n (by omega))
  have HL : Hid ((xs ++ putL n).length = len + G) := by show _ = _; rw [List.length_append, hG, H.out.n]
  clear hG
  go_enter Try.func5, Try.ntmps5
  go_wp2_with (first | (go_at_call 9; go_must (refine (awake_any _).mono ?_); rintro e w1 ⟨rfl, hb1⟩) | (at_builtin; refine wpList_append_bytes rfl (.const (.slice none 0 0)) (.tmp 12) rfl w.heap.size none 0 0 [] rfl rfl (Own.nil _ _) a len cap xs rfl (H.out.later hb1) HN.out (by omega) w hb1 hb1.size ?_; intro a2 c2 w2 HO2 hb2 hB2; replace HO2 : Hid (Own w2 w.heap.size a2 c2 xs) := HO2) | (go_at_call 16; go_must (refine (put_any a2 len c2 xs n _ (by omega) h0 h1 (HO2.out.bytes H.out.fit len H.out.n)).mono ?_); rw [HG.out]; rintro e w3 ⟨rfl, hR3, hb3⟩; have HR3 : Hid (Row w3 w2.heap.size (xs ++ putL n)) := hR3; clear hR3) | (go_at_call 17; go_must (refine (rput_any a len cap xs n _ (by omega) h0 h1 (H.out.later (hb2.trans (hb3.mono hB2))) HN.out).mono ?_); rw [HG.out]; rintro e w4 ⟨a4, c4, rfl, hO4, hb4⟩; have HO4 : Hid (Own w4 w3.heap.size a4 c4 (xs ++ putL n)) := hO4; clear hO4))
  obtain ⟨g, hg⟩ : ∃ g, g = w2.heap.size := ⟨_, rfl⟩
  have g3 : w2.heap.size < w3.heap.size := HR3.out.lt
  have hw3 : Below w.heap.size w w3 := hb2.trans (hb3.mono hB2)
  have hw4 : Below w.heap.size w w4 := hw3.trans (hb4.mono hw3.size)
  have F1 : Hid (Bytes w4 a len xs) := H.out.later hw4
  have F2 : Hid (Bytes w4 a2 len xs) := ((HO2.out.bytes H.out.fit len H.out.n).later hb3).later hb4
  have F3 : Hid (Bytes w4 a4 (len + G) (xs ++ putL n)) := HO4.out.bytes HF.out _ HL.out
  have F4 : Hid (Row w4 g (xs ++ putL n)) := by rw [hg]; exact HR3.out.below hb4 g3
  have A1 : Hid (0 < xs.length → ∀ b off, a = some ⟨b, off, none⟩ → b ≠ g) := fun hp b off e => by
    have := H.out.lt hp b off e
    omega
  have A2 : Hid (0 < xs.length → ∀ b off, a2 = some ⟨b, off, none⟩ → b ≠ g) := fun hp b off e => by
    have := (HO2.out.bytes H.out.fit len H.out.n).lt hp b off e
    omega
  have A3 : Hid (0 < (xs ++ putL n).length → ∀ b off, a4 = some ⟨b, off, none⟩ → b ≠ g) := fun hp b off e => by
    obtain ⟨g4, e4, hg4, _⟩ := HO4.out.some hp
    rw [e] at e4
    simp only [Option.some.injEq, Addr.mk.injEq] at e4
    omega
  have hwg : w.heap.size ≤ g := by omega
  rw [← hg]
  clear hg HR3 HO2 HO4 hb1 hb2 hb3 hb4 hB2 g3 hw3
  go_loopw [9] (fun i wr => ∃ (k : Nat) (zs : List Int), k ≤ len + G ∧ i = .int .i64 k ∧ Hid (zs.length = len + G) ∧ Hid (Row wr g zs) ∧ Hid (∀ z ∈ zs, 0 ≤ z ∧ z ≤ 255) ∧ Hid (∀ j, j ≠ g → wr.heap[j]? = w4.heap[j]?) ∧ Below w.heap.size w wr) (fun i _ => len + G - (intOf i).toNat)
  case atStart => exact ⟨0, xs ++ putL n, Nat.zero_le _, rfl, HL, F4, HF, fun _ _ => rfl, hw4⟩
  case round =>
    obtain ⟨k, zs, hk, rfl, HZL, HZ, HZF, HA, hb⟩ := hrel
    clear hw4 F4
    by_cases hkl : k < len + G
    · have hkz : k < zs.length := by rw [HZL.out]; exact hkl
      have hcell := HZ.out.cell k hkz
      have hfree := HZ.out.free k
      have hz := HZF.out _ (List.getElem_mem hkz)
      obtain ⟨z, ez⟩ : ∃ z, z = zs[k] := ⟨_, rfl⟩
      rw [← ez] at hcell hz
      have HS : Hid (Row (wr.setCell ⟨g, k, none⟩ (.int .u8 ((z + 1) % 256))) g (zs.set k ((z + 1) % 256))) := HZ.out.set k _
      have HA' : Hid (∀ j, j ≠ g → (wr.setCell ⟨g, k, none⟩ (.int .u8 ((z + 1) % 256))).heap[j]? = w4.heap[j]?) := fun j hj => (heap_setCell_other wr ⟨g, k, none⟩ j _ hj).trans (HA.out j hj)
      have HF' : Hid (∀ y ∈ zs.set k ((z + 1) % 256), 0 ≤ y ∧ y ≤ 255) := fit_set HZF.out k _ (by omega)
      clear ez
      go_wp2
      go_roundw
      case rel => exact ⟨k + 1, zs.set k ((z + 1) % 256), by omega, by go_num, (show _ = _ by rw [List.length_set]; exact HZL.out), HS, HF', HA', hb.setCell hwg _⟩
      case measure => simp [intOf]; omega
    · have B1 : Hid (Bytes wr a len xs) := F1.out.apart g HA.out A1.out
      have B2 : Hid (Bytes wr a2 len xs) := F2.out.apart g HA.out A2.out
      have B3 : Hid (Bytes wr a4 (len + G) (xs ++ putL n)) := F3.out.apart g HA.out A3.out
      clear HZ HZF HA HZL F1 F2 F3
      go_wp2_with (go_at_call 16; go_must (refine (put_any a2 len c2 xs n _ (by omega) h0 h1 B2.out).mono ?_); rw [HG.out]; rintro e w5 ⟨rfl, hR5, hb5⟩; have v1 := convert_bytes (B1.out.later hb5) cap; have v2 := convert_bytes (B2.out.later hb5) c2; have v3 := convert_bytes (B3.out.later hb5) c4; have v4 := convert_bytes (hR5.bytes HF.out _ HL.out) (len + G); clear hR5)
      go_ret
      exact ⟨rfl, hb.trans (hb5.mono hb.size)⟩

set_option maxRecDepth 100000 in
theorem numPuts_lifted (os : Os) (started : os.Started) (H : Type) (enc : TypeId × Value → H) :
    ReturnsInHanded {} Try.checked os 5 .any (Rows.numPutsSpec.pre6 enc Try.prog Try.f5 Rows.numPutsRow.domain false) (Rows.numPutsSpec.post enc Try.prog Try.f5 false true false false) := by
  refine returnsInHanded_of_change_sized (C := Try.checked) own started (by kernel_rfl) Try.func5
    (ChangeSpec.witness6 (enc := enc) (C := Try.checked) false ⟨#[], #[.slice none 0 0, .int .i64 0], []⟩ 8 (by kernel_rfl) (by kernel_rfl) (by kernel_rfl) (by kernel_rfl)) ?_
  intro W base args ds gs before hval0 hW _ hsz0 _
  have hval : ∀ (j : Nat) t v, Try.f5.params[j]? = some t → args[j]? = some v → Value.okWide Try.prog W .any base t v := hval0
  have hsz : (DataW.weightsEach Try.prog (Try.f5.params.toList ++ Rows.numPutsSpec.plain.varTypes Try.prog) (ds ++ gs)).all (· ≤ reachBytes) = true := hsz0
  have hW' := hW
  obtain ⟨p, q, hA0, hV, rfl, hfz, hnd⟩ := hW
  have hA : DataW.TrodAll enc Try.prog W 0 (fun _ => true) true Try.f5.params.toList args.toList ds p := hA0
  rw [Try.params5] at hA hval hsz
  obtain ⟨v0, vs0, d0, ds0, p0, q0, hargs, rfl, rfl, h0, r0⟩ := trodAll_cons hA
  obtain ⟨v1, vs1, d1, ds1, p1, q1, rfl, rfl, rfl, h1, r1⟩ := trodAll_cons r0
  obtain ⟨rfl, rfl, rfl⟩ := trodAll_nil r1
  obtain rfl : args = #[v0, v1] := by cases args; simp_all
  obtain ⟨rfl, rfl⟩ := trodVars_none hV
  obtain ⟨a0, len0, cap0, rfl⟩ := okWide_slice Try.underlying27 (hval 0 27 v0 rfl rfl)
  have k0 := h0
  have lt0 : ∀ x ∈ p0, x.block < W.heap.size := by obtain ⟨m, hm⟩ := k0; exact DataW.trod_lt m _ _ _ hm
  obtain ⟨z0, hr0, hb0⟩ : ∃ zs, IsRow .u8 W a0 len0 cap0 zs ∧ cap0 * Try.prog.bytesOf 5 ≤ 140737488351232 := by
    obtain ⟨fuel, hf⟩ := h0
    rcases open_ints Try.underlying27 Try.underlying5 (by kernel_rfl) hf with ⟨hcs, hx⟩ | ⟨x, l, c, zs, hcs, hlc, hl, hm, hz, hx, hcell, hwz⟩
    · simp [Value.cells] at hcs
      obtain ⟨rfl, rfl, rfl⟩ := hcs
      exact ⟨[], .inl ⟨rfl, rfl, rfl, rfl⟩, by simp⟩
    · simp [Value.cells] at hcs
      obtain ⟨rfl, rfl, rfl⟩ := hcs
      simp only [Prod.mk.injEq] at hx
      obtain ⟨rfl, _⟩ := hx
      have hs := sized_slice hsz (j := 0) (t := 27) (e := 5) rfl rfl Try.underlying27
      simp only [lits, List.length_map, List.length_take, List.length_drop, reachBytes] at hs
      refine ⟨zs, .inr ⟨_, rfl, hl, hm, by simpa using hz, hcell, hwz⟩, ?_⟩
      have hz2 : zs.length = cap0 := by simpa using hz
      refine Nat.le_trans (Nat.mul_le_mul_right _ ?_) hs
      omega
  obtain ⟨a1, rfl, rfl, rfl, w1⟩ := open_int Try.underlying3 (hval 1 3 v1 rfl rfl) h1
  clear hA0 hval0
  refine (numPuts_walk a0 len0 cap0 (z0.take len0) a1 W (by have := hr0.len; rw [bytes5] at hb0; omega) (bd64 w1).1 (bd64 w1).2 hr0.bytes hr0.nil).mono fun e W' ⟨he, bel⟩ => ?_
  subst he
  exact ⟨_, rfl, _, _, _, [], _, [], hW', trodAll_mk1 (shut_bool Try.underlying4 _), (trodAll_cons_mk (Below.trod laidOut (by kernel_rfl) (of_decide_eq_true (by kernel_rfl)) k0 bel lt0) (trodAll_cons_mk (shut_int Try.underlying3 w1) trodAll_mk0)), rfl, bel.frame _, fun h => by cases h⟩

theorem numPuts_holds : Rows.NumPutsSaid :=
  OpenClaim.holds_of_wide 5 Try.f5 rfl rfl rfl rfl rfl rfl rfl ⟨rfl, rfl, rfl, rfl, rfl⟩ rfl rfl rfl rfl rfl (by kernel_rfl) Try.func5 (by kernel_rfl)
    (of_decide_eq_true (by kernel_rfl)) (by unfold Func.isWrapper; rw [if_neg (of_decide_eq_false (by kernel_rfl))]; exact ⟨rfl, rfl⟩)
    (fun os started H enc _ => numPuts_lifted os started H enc)
#print axioms numPuts_holds
end Go.Proofs.Ytfdcpelbikebkaa
