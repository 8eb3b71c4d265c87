/-
  NumRowsSaid is proved: for every slice of integers the statement NumRows returns true, without any condition.
-/
import Derived.Test.YtfdcpelbikebkabFrame
namespace Go.Proofs.Ytfdcpelbikebkab
open Go.ChangeShapes Go.WideShapes Go.ChangeAt Go.RowKit

/-- Numbers put one behind the other. -/
def flat (l : List Int) : List Int := l.flatMap putL
theorem flat_snoc (l : List Int) (n : Int) : flat (l ++ [n]) = flat l ++ putL n := by simp [flat]
theorem flat_cons (n : Int) (l : List Int) : flat (n :: l) = putL n ++ flat l := by simp [flat]
theorem putL_le (n : Int) (h : n ≤ 9223372036854775807) : (putL n).length ≤ 9 := by
  by_cases hn : n < 0
  · simp [putL, hn]
  · rw [putL_len n (by omega) (by omega)]; exact (grp_spec n (by omega) (by omega)).2.1
theorem flat_le (l : List Int) (h : ∀ n ∈ l, n ≤ 9223372036854775807) : (flat l).length ≤ 9 * l.length := by
  induction l with
  | nil => simp [flat]
  | cons n r ih =>
    rw [flat_cons, List.length_append, List.length_cons]
    have := ih (fun m hm => h m (by simp [hm]))
    have := putL_le n (h n (by simp))
    omega
theorem flat_fit (l : List Int) (h : ∀ n ∈ l, n ≤ 9223372036854775807) : ∀ z ∈ flat l, 0 ≤ z ∧ z ≤ 255 := by
  intro z hz
  simp only [flat, List.mem_flatMap] at hz
  obtain ⟨n, hn, hz⟩ := hz
  exact putL_fit n (by have := h n hn; omega) z hz

/-- A slice of so many integers at that address holds the numbers ls. -/
structure Ints (w : World) (a : Option Addr) (len : Nat) (ls : List Int) : Prop where
  n : ls.length = len
  cells : ls = [] ∨ ∃ b off, a = some ⟨b, off, none⟩ ∧ ∀ k (h : k < ls.length), w.cell? ⟨b, off + k, none⟩ = some (.int .i64 ls[k])
  fit : ∀ z ∈ ls, -9223372036854775808 ≤ z ∧ z ≤ 9223372036854775807
theorem Ints.get {w w' : World} {a : Option Addr} {len : Nat} {ls : List Int} (h : Ints w a len ls) (hb : Below w.heap.size w w') (k : Nat) (hk : k < len) :
    ∃ b off z, a = some ⟨b, off, none⟩ ∧ w'.cell? ⟨b, off + k, none⟩ = some (.int .i64 z) ∧ (-9223372036854775808 ≤ z ∧ z ≤ 9223372036854775807) ∧ ∃ h : k < ls.length, z = ls[k] := by
  have hn := h.n
  rcases h.cells with e | ⟨b, off, ha, hc⟩
  · subst e; simp at hn; omega
  · have hc1 := hc k (by omega)
    exact ⟨b, off, ls[k], ha, (hb.cell (p := ⟨b, off + k, none⟩) (World.block_lt_of_cell? w _ hc1)).trans hc1, h.fit _ (List.getElem_mem _), by omega, rfl⟩
theorem IsRow.ints {w : World} {a : Option Addr} {len cap : Nat} {zs : List Int} (h : IsRow .i64 w a len cap zs) : Ints w a len (zs.take len) := by
  have hl := h.len
  refine ⟨by simp; omega, ?_, fun z hz => ?_⟩
  · rcases h.cells with rfl | ⟨b, off, ha, _, hc⟩
    · left; simp
    · right
      refine ⟨b, off, ha, fun i hi => ?_⟩
      rw [hc i (by simp at hi; omega)]
      simp
  · rcases h with ⟨_, _, _, rfl⟩ | ⟨x, _, _, _, _, _, hw⟩
    · simp at hz
    · exact bd64 (hw z (List.mem_of_mem_take hz))

/-- What is left of bytes behind the first G, as the walk spells the cut. -/
theorem Bytes.cut {w : World} {b off L c G : Nat} {ys zs : List Int} (h : Bytes w (some ⟨b, off, none⟩) L (ys ++ zs)) (hG : ys.length = G) (hLc : L ≤ c) :
    Bytes w (if c = G then some ⟨b, off, none⟩ else some ⟨b, off + G, none⟩) (L - G) zs := by
  have hn := h.n
  rw [List.length_append, hG] at hn
  refine ⟨by omega, ?_, fun z hz => h.fit z (List.mem_append.2 (.inr hz))⟩
  by_cases h0 : zs.length = 0
  · exact .inl (List.eq_nil_of_length_eq_zero h0)
  · rw [if_neg (by omega)]
    refine .inr ⟨b, off + G, rfl, fun k hk => ?_⟩
    rcases h.cells with e | ⟨b', off', e, hc⟩
    · exact absurd (by rw [(List.append_eq_nil_iff.1 e).2]; rfl) h0
    · simp only [Option.some.injEq, Addr.mk.injEq] at e
      obtain ⟨rfl, rfl, _⟩ := e
      have h1 := hc (G + k) (by rw [List.length_append]; omega)
      rw [Nat.add_assoc, h1, List.getElem_append_right (by omega)]
      simp [hG]

set_option maxHeartbeats 1000000 in
theorem numRows_walk (a : Option Addr) (len cap : Nat) (ls : List Int) (w : World) (hl : len ≤ 140737488351232) (hI : Ints w a len ls) :
    Calls Try.prog 4 #[.slice a len cap] w fun e w' => e = .returned (.bool true) ∧ Below w.heap.size w w' := by
  have H : Hid (Ints w a len ls) := hI
  clear hI
  by_cases hbig : 1000 < len
  · go_enter Try.func4, Try.ntmps4
    go_wp2_with (go_at_call 5; go_must (refine (awake_any _).mono ?_); rintro e w1 ⟨rfl, hb⟩)
    go_ret
    exact ⟨rfl, hb⟩
  · go_enter Try.func4, Try.ntmps4
    go_wp2_with (go_at_call 5; go_must (refine (awake_any _).mono ?_); rintro e w1 ⟨rfl, hb⟩)
    go_loopw [4, 5] (fun v i wr => ∃ (k : Nat) (a2 : Option Addr) (L c2 : Nat), k ≤ len ∧ i = .int .i64 k ∧ v = .slice a2 L c2 ∧ L ≤ c2 ∧ Hid (Bytes wr a2 L (flat (ls.take k))) ∧ Below w.heap.size w wr) (fun _ i _ => len - (intOf i).toNat)
    case atStart => exact ⟨0, none, 0, 0, Nat.zero_le _, rfl, rfl, Nat.le_refl _, ⟨by simp [flat], .inl (by simp [flat]), by simp [flat]⟩, hb⟩
    case round =>
      obtain ⟨k, a2, L, c2, hk, rfl, rfl, hLc, HB2, hb2⟩ := hrel
      clear hb
      have hL : L ≤ 9000 := by
        rw [← HB2.out.n]
        have h1 := flat_le (ls.take k) (fun n hn => (H.out.fit n (List.mem_of_mem_take hn)).2)
        have h2 : (ls.take k).length ≤ k := by simp; omega
        omega
      by_cases hkl : k < len
      · obtain ⟨b, off, z, rfl, hcell, hz, hkz, ez⟩ := H.out.get hb2 k hkl
        have HE : Hid (flat (ls.take (k + 1)) = flat (ls.take k) ++ putL z) := by
          show _ = _
          rw [List.take_succ_eq_append_getElem hkz, flat_snoc, ez]
        have HF : Hid (∀ y ∈ flat (ls.take (k + 1)), 0 ≤ y ∧ y ≤ 255) := flat_fit _ (fun n hn => (H.out.fit n (List.mem_of_mem_take hn)).2)
        clear ez hkz
        go_wp2_with (go_at_call 8; go_must (refine (put_any a2 L c2 (flat (ls.take k)) z _ (by omega) hz.1 hz.2 HB2.out).mono ?_); rintro e w3 ⟨rfl, hR3, hb3⟩; rw [← HE.out] at hR3; have HR3 : Hid (Bytes w3 (some ⟨wr.heap.size, 0, none⟩) (L + (putL z).length) (flat (ls.take (k + 1)))) := hR3.bytes HF.out _ (by rw [HE.out, List.length_append, HB2.out.n]); clear hR3)
        go_roundw
        case rel => exact ⟨k + 1, _, _, _, by omega, by go_num, rfl, Nat.le_refl _, HR3, hb2.trans (hb3.mono hb2.size)⟩
        case measure => simp [intOf]; omega
      · have hk2 : ls.take k = ls := List.take_of_length_le (by rw [H.out.n]; omega)
        rw [hk2] at HB2
        clear hk2
        go_wp2
        clear hk hkl
        go_loop [4, 6] (fun v i => ∃ (j : Nat) (a3 : Option Addr) (L3 c3 : Nat), j ≤ len ∧ i = .int .i64 j ∧ v = .slice a3 L3 c3 ∧ L3 ≤ c3 ∧ L3 ≤ 9000 ∧ Hid (Bytes wr a3 L3 (flat (ls.drop j)))) (fun _ i => len - (intOf i).toNat)
        case atStart => exact ⟨0, a2, L, c2, Nat.zero_le _, rfl, rfl, hLc, hL, HB2⟩
        case round =>
          obtain ⟨j, a3, L3, c3, hj, rfl, rfl, hLc3, hL3, HB3⟩ := hrel
          clear HB2 hLc hL
          by_cases hjl : j < len
          · obtain ⟨b, off, z, rfl, hcell, hz, hjz, ez⟩ := H.out.get hb2 j hjl
            have HE : Hid (flat (ls.drop j) = putL z ++ flat (ls.drop (j + 1))) := by
              show _ = _
              rw [List.drop_eq_getElem_cons hjz, flat_cons, ez]
            clear ez hjz
            by_cases z0 : z < 0
            · have hp : putL z = [] := by simp [putL, z0]
              rw [HE.out, hp, List.nil_append] at HB3
              clear hp
              go_wp2
              go_round
              case rel => exact ⟨j + 1, a3, L3, c3, by omega, by go_num, rfl, hLc3, hL3, HB3⟩
              case measure => simp [intOf]; omega
            · by_cases z1 : 2147483647 < z
              · go_wp2
                go_ret
                exact ⟨rfl, hb2⟩
              · obtain ⟨hg, g1, g5⟩ := getL_putL z (by omega) (by omega) (flat (ls.drop (j + 1)))
                have hG := putL_len z (by omega) (by omega)
                obtain ⟨G, eG⟩ : ∃ G, G = grp z := ⟨_, rfl⟩
                rw [← eG] at hg g1 g5 hG
                clear eG
                have hGL : G ≤ L3 := by
                  rw [← HB3.out.n, HE.out, List.length_append, hG]
                  omega
                have HX : Hid (getL (flat (ls.drop j)) = (z, (G : Int))) := by show _ = _; rw [HE.out]; exact hg
                have HG : Hid ((putL z).length = G) := hG
                clear hg hG
                obtain ⟨b3, off3, _, rfl, _⟩ := HB3.out.get 0 (by omega)
                go_wp2_with (go_at_call 9; go_must (refine (get_any _ L3 c3 (flat (ls.drop j)) _ (by omega) HB3.out).mono ?_); rw [HX.out]; rintro e w6 ⟨rfl, hw⟩; subst w6)
                have HC := (HE.out ▸ HB3.out).cut HG.out hLc3
                go_round
                case rel => exact ⟨j + 1, _, _, _, by omega, by go_num, rfl, by omega, by omega, HC⟩
                case measure => simp [intOf]; omega
          · have h3 : L3 = 0 := by
              rw [← HB3.out.n, List.drop_eq_nil_of_le (by rw [H.out.n]; omega)]
              rfl
            have HL3 : Hid (L3 = 0) := h3
            clear h3
            go_wp2
            go_ret
            exact ⟨ret_bool (by rw [HL3.out]; rfl), hb2⟩

set_option maxRecDepth 100000 in
theorem numRows_lifted (os : Os) (started : os.Started) (H : Type) (enc : TypeId × Value → H) :
    ReturnsInHanded {} Try.checked os 4 .any (Rows.numRowsSpec.pre6 enc Try.prog Try.f4 Rows.numRowsRow.domain false) (Rows.numRowsSpec.post enc Try.prog Try.f4 false true false false) := by
  refine returnsInHanded_of_change_sized (C := Try.checked) own started (by kernel_rfl) Try.func4
    (ChangeSpec.witness6 (enc := enc) (C := Try.checked) false ⟨#[], #[.slice none 0 0], []⟩ 8 (by kernel_rfl) (by kernel_rfl) (by kernel_rfl) (by kernel_rfl)) ?_
  intro W base args ds gs before hval0 hW _ hsz0 _
  have hval : ∀ (j : Nat) t v, Try.f4.params[j]? = some t → args[j]? = some v → Value.okWide Try.prog W .any base t v := hval0
  have hsz : (DataW.weightsEach Try.prog (Try.f4.params.toList ++ Rows.numRowsSpec.plain.varTypes Try.prog) (ds ++ gs)).all (· ≤ reachBytes) = true := hsz0
  have hW' := hW
  obtain ⟨p, q, hA0, hV, rfl, hfz, hnd⟩ := hW
  have hA : DataW.TrodAll enc Try.prog W 0 (fun _ => true) true Try.f4.params.toList args.toList ds p := hA0
  rw [Try.params4] at hA hval hsz
  obtain ⟨v0, vs0, d0, ds0, p0, q0, hargs, rfl, rfl, h0, r0⟩ := trodAll_cons hA
  obtain ⟨rfl, rfl, rfl⟩ := trodAll_nil r0
  obtain rfl : args = #[v0] := by cases args; simp_all
  obtain ⟨rfl, rfl⟩ := trodVars_none hV
  obtain ⟨a0, len0, cap0, rfl⟩ := okWide_slice Try.underlying25 (hval 0 25 v0 rfl rfl)
  have k0 := h0
  have lt0 : ∀ x ∈ p0, x.block < W.heap.size := by obtain ⟨m, hm⟩ := k0; exact DataW.trod_lt m _ _ _ hm
  obtain ⟨z0, hr0, hb0⟩ : ∃ zs, IsRow .i64 W a0 len0 cap0 zs ∧ cap0 * Try.prog.bytesOf 3 ≤ 140737488351232 := by
    obtain ⟨fuel, hf⟩ := h0
    rcases open_ints Try.underlying25 Try.underlying3 (by kernel_rfl) hf with ⟨hcs, hx⟩ | ⟨x, l, c, zs, hcs, hlc, hl, hm, hz, hx, hcell, hwz⟩
    · simp [Value.cells] at hcs
      obtain ⟨rfl, rfl, rfl⟩ := hcs
      exact ⟨[], .inl ⟨rfl, rfl, rfl, rfl⟩, by simp⟩
    · simp [Value.cells] at hcs
      obtain ⟨rfl, rfl, rfl⟩ := hcs
      simp only [Prod.mk.injEq] at hx
      obtain ⟨rfl, _⟩ := hx
      have hs := sized_slice hsz (j := 0) (t := 25) (e := 3) rfl rfl Try.underlying25
      simp only [lits, List.length_map, List.length_take, List.length_drop, reachBytes] at hs
      refine ⟨zs, .inr ⟨_, rfl, hl, hm, by simpa using hz, hcell, hwz⟩, ?_⟩
      have hz2 : zs.length = cap0 := by simpa using hz
      refine Nat.le_trans (Nat.mul_le_mul_right _ ?_) hs
      omega
  clear hA0 hval0
  refine (numRows_walk a0 len0 cap0 (z0.take len0) W (by have := hr0.len; rw [bytes3] at hb0; omega) hr0.ints).mono fun e W' ⟨he, bel⟩ => ?_
  subst he
  exact ⟨_, rfl, _, _, _, [], _, [], hW', trodAll_mk1 (shut_bool Try.underlying4 _), (trodAll_cons_mk (Below.trod laidOut (by kernel_rfl) (of_decide_eq_true (by kernel_rfl)) k0 bel lt0) trodAll_mk0), rfl, bel.frame _, fun h => by cases h⟩

theorem numRows_holds : Rows.NumRowsSaid :=
  OpenClaim.holds_of_wide 4 Try.f4 rfl rfl rfl rfl rfl rfl rfl ⟨rfl, rfl, rfl, rfl, rfl⟩ rfl rfl rfl rfl rfl (by kernel_rfl) Try.func4 (by kernel_rfl)
    (of_decide_eq_true (by kernel_rfl)) (by unfold Func.isWrapper; rw [if_neg (of_decide_eq_false (by kernel_rfl))]; exact ⟨rfl, rfl⟩)
    (fun os started H enc _ => numRows_lifted os started H enc)
#print axioms numRows_holds
end Go.Proofs.Ytfdcpelbikebkab
