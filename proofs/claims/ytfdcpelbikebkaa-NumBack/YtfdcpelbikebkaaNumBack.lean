/-
  NumBackSaid is proved: for every integer and every slice of bytes the statement NumBack returns true, without any condition.
-/
import Derived.Test.YtfdcpelbikebkaaFrame
import Derived.Test.YtfdcpelbikebkaaOwn
namespace Go.Proofs.Ytfdcpelbikebkaa
open Go.ChangeShapes Go.WideShapes Go.ChangeAt Go.RowKit

theorem put_nil (n : Int) (w : World) (h0 : 0 ≤ n) (h1 : n ≤ 9223372036854775807) (G : Nat) (hG : (putL n).length = G) :
    Calls Try.prog 16 #[.slice none 0 0, .int .i64 n] w fun e w' => e = .returned (.slice (some ⟨w.heap.size, 0, none⟩) G G) ∧ Row w' w.heap.size (putL n) ∧ Below w.heap.size w w' := by
  have := put_any none 0 0 [] n w (by omega) (by omega) (by omega) ⟨rfl, .inl rfl, by simp⟩
  rw [hG, Nat.zero_add] at this
  exact this

set_option maxHeartbeats 1000000 in
theorem numBack_walk (n : Int) (a : Option Addr) (len cap : Nat) (ts : List Int) (w : World) (N : -9223372036854775808 ≤ n ∧ n ≤ 9223372036854775807) (hl : len ≤ 140737488351232) (hB : Bytes w a len ts) (hnil : a = none → cap = 0) :
    Calls Try.prog 7 #[.int .i64 n, .slice a len cap] w fun e w' => e = .returned (.bool true) ∧ Below w.heap.size w w' := by
  have H : Hid (Bytes w a len ts) := hB
  have HN : Hid (a = none → cap = 0) := hnil
  clear hB hnil
  by_cases c1 : n < 0
  · go_enter Try.func7, Try.ntmps7
    go_wp2_with (go_at_call 9; go_must (refine (awake_any _).mono ?_); rintro e w1 ⟨rfl, hb⟩)
    go_ret
    exact ⟨rfl, hb⟩
  · by_cases c2 : 2147483647 < n
    · go_enter Try.func7, Try.ntmps7
      go_wp2_with (go_at_call 9; go_must (refine (awake_any _).mono ?_); rintro e w1 ⟨rfl, hb⟩)
      go_ret
      exact ⟨rfl, hb⟩
    · obtain ⟨hg, g1, g5⟩ := getL_putL n (by omega) (by omega) ts
      have hG := putL_len n (by omega) (by omega)
      obtain ⟨G, eG⟩ : ∃ G, G = grp n := ⟨_, rfl⟩
      rw [← eG] at hg g1 g5 hG
      have HG : Hid ((putL n).length = G) := hG
      have HX : Hid (getL (putL n ++ ts) = (n, (G : Int))) := hg
      clear hG hg eG
      go_enter Try.func7, Try.ntmps7
      go_wp2_with (first | (go_at_call 9; go_must (refine (awake_any _).mono ?_); rintro e w1 ⟨rfl, hb⟩) | (go_at_call 16; go_must (refine (put_nil n _ (by omega) (by omega) G HG.out).mono ?_); rintro e w2 ⟨rfl, hR, hb2⟩; have HR : Hid (Bytes w2 (some ⟨w1.heap.size, 0, none⟩) G (putL n)) := hR.bytes (putL_fit n (by omega)) G HG.out; have hb3 : Below w.heap.size w w2 := hb.trans (hb2.mono hb.size); clear hR hb2) | (at_builtin; refine wpList_append_bytes rfl (.const (.slice none 0 0)) (.tmp 20) rfl w.heap.size none 0 0 [] rfl rfl (Own.nil _ _) _ G G (putL n) rfl HR.out (fun h => by cases h) (by omega) w hb3 hb3.size ?_; intro a4 c4 w4 HO4 hb4 hB4; replace HO4 : Hid (Own w4 w.heap.size a4 c4 (putL n)) := HO4; clear HR) | (at_builtin; refine wpList_append_bytes rfl (.tmp 21) (.tmp 22) rfl w.heap.size a4 G c4 (putL n) HG.out rfl HO4.out a len cap ts rfl (H.out.later hb4) HN.out (by omega) w hb4 hB4 ?_; intro a5 c5 w5 HO5 hb5 hB5; have HX5 : Hid (Bytes w5 a5 (G + len) (putL n ++ ts)) := HO5.out.bytes (fit_append (putL_fit n (by omega)) H.out.fit) (G + len) (by rw [List.length_append, HG.out, H.out.n])) | (go_at_call 18; go_must (refine (get_any _ (G + len) c5 (putL n ++ ts) _ (by omega) HX5.out).mono ?_); rw [HX.out]; rintro e w6 ⟨rfl, hw⟩; subst w6))
      go_ret
      exact ⟨ret_bool (by simp; omega), hb5⟩

set_option maxRecDepth 100000 in
theorem numBack_lifted (os : Os) (started : os.Started) (H : Type) (enc : TypeId × Value → H) :
    ReturnsInHanded {} Try.checked os 7 .any (Rows.numBackSpec.pre6 enc Try.prog Try.f7 Rows.numBackRow.domain false) (Rows.numBackSpec.post enc Try.prog Try.f7 false true false false) := by
  refine returnsInHanded_of_change_sized (C := Try.checked) own started (by kernel_rfl) Try.func7
    (ChangeSpec.witness6 (enc := enc) (C := Try.checked) false ⟨#[], #[.int .i64 0, .slice none 0 0], []⟩ 8 (by kernel_rfl) (by kernel_rfl) (by kernel_rfl) (by kernel_rfl)) ?_
  intro W base args ds gs before hval0 hW _ hsz0 _
  have hval : ∀ (j : Nat) t v, Try.f7.params[j]? = some t → args[j]? = some v → Value.okWide Try.prog W .any base t v := hval0
  have hsz : (DataW.weightsEach Try.prog (Try.f7.params.toList ++ Rows.numBackSpec.plain.varTypes Try.prog) (ds ++ gs)).all (· ≤ reachBytes) = true := hsz0
  have hW' := hW
  obtain ⟨p, q, hA0, hV, rfl, hfz, hnd⟩ := hW
  have hA : DataW.TrodAll enc Try.prog W 0 (fun _ => true) true Try.f7.params.toList args.toList ds p := hA0
  rw [Try.params7] at hA hval hsz
  obtain ⟨v0, vs0, d0, ds0, p0, q0, hargs, rfl, rfl, h0, r0⟩ := trodAll_cons hA
  obtain ⟨v1, vs1, d1, ds1, p1, q1, rfl, rfl, rfl, h1, r1⟩ := trodAll_cons r0
  obtain ⟨rfl, rfl, rfl⟩ := trodAll_nil r1
  obtain rfl : args = #[v0, v1] := by cases args; simp_all
  obtain ⟨rfl, rfl⟩ := trodVars_none hV
  obtain ⟨a0, rfl, rfl, rfl, w0⟩ := open_int Try.underlying3 (hval 0 3 v0 rfl rfl) h0
  obtain ⟨a1, len1, cap1, rfl⟩ := okWide_slice Try.underlying27 (hval 1 27 v1 rfl rfl)
  have k1 := h1
  have lt1 : ∀ x ∈ p1, x.block < W.heap.size := by obtain ⟨m, hm⟩ := k1; exact DataW.trod_lt m _ _ _ hm
  obtain ⟨z1, hr1, hb1⟩ : ∃ zs, IsRow .u8 W a1 len1 cap1 zs ∧ cap1 * Try.prog.bytesOf 5 ≤ 140737488351232 := by
    obtain ⟨fuel, hf⟩ := h1
    rcases open_ints Try.underlying27 Try.underlying5 (by kernel_rfl) hf with ⟨hcs, hx⟩ | ⟨x, l, c, zs, hcs, hlc, hl, hm, hz, hx, hcell, hwz⟩
    · simp [Value.cells] at hcs
      obtain ⟨rfl, rfl, rfl⟩ := hcs
      exact ⟨[], .inl ⟨rfl, rfl, rfl, rfl⟩, by simp⟩
    · simp [Value.cells] at hcs
      obtain ⟨rfl, rfl, rfl⟩ := hcs
      simp only [Prod.mk.injEq] at hx
      obtain ⟨rfl, _⟩ := hx
      have hs := sized_slice hsz (j := 1) (t := 27) (e := 5) rfl rfl Try.underlying27
      simp only [lits, List.length_map, List.length_take, List.length_drop, reachBytes] at hs
      refine ⟨zs, .inr ⟨_, rfl, hl, hm, by simpa using hz, hcell, hwz⟩, ?_⟩
      have hz2 : zs.length = cap1 := by simpa using hz
      refine Nat.le_trans (Nat.mul_le_mul_right _ ?_) hs
      omega
  clear hA0 hval0
  refine (numBack_walk a0 a1 len1 cap1 (z1.take len1) W (bd64 w0) (by have := hr1.len; rw [bytes5] at hb1; omega) hr1.bytes hr1.nil).mono fun e W' ⟨he, bel⟩ => ?_
  subst he
  exact ⟨_, rfl, _, _, _, [], _, [], hW', trodAll_mk1 (shut_bool Try.underlying4 _), (trodAll_cons_mk (shut_int Try.underlying3 w0) (trodAll_cons_mk (Below.trod laidOut (by kernel_rfl) (of_decide_eq_true (by kernel_rfl)) k1 bel lt1) trodAll_mk0)), rfl, bel.frame _, fun h => by cases h⟩

theorem numBack_holds : Rows.NumBackSaid :=
  OpenClaim.holds_of_wide 7 Try.f7 rfl rfl rfl rfl rfl rfl rfl ⟨rfl, rfl, rfl, rfl, rfl⟩ rfl rfl rfl rfl rfl (by kernel_rfl) Try.func7 (by kernel_rfl)
    (of_decide_eq_true (by kernel_rfl)) (by unfold Func.isWrapper; rw [if_neg (of_decide_eq_false (by kernel_rfl))]; exact ⟨rfl, rfl⟩)
    (fun os started H enc _ => numBack_lifted os started H enc)
#print axioms numBack_holds
end Go.Proofs.Ytfdcpelbikebkaa
