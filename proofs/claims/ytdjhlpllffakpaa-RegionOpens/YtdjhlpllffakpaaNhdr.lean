/-
  Plain: what a header promises, entry by entry; two bytes as a number; four bytes that are compared with noughts.
-/
import Derived.Test.YtdjhlpllffakpaaNplan
import Derived.Laws.BitsAllLaws
set_option maxRecDepth 20000
namespace Go.Proofs.Ytdjhlpllffakpaa
open Go.RowKit

theorem i64_or_nat (a b : Nat) (ha : a < 9223372036854775808) (hb : b < 9223372036854775808) : bits .or .i64 (a : Int) (b : Int) = ((a ||| b : Nat) : Int) := by
  have hx : a ||| b < 2 ^ 63 := Nat.or_lt_two_pow (by omega) (by omega)
  show IntKind.i64.wrap ((BitVec.ofInt 64 (a : Int) ||| BitVec.ofInt 64 (b : Int)).toNat : Int) = _
  rw [BitVec.toNat_or, ofInt_u64 a (by omega), ofInt_u64 b (by omega)]
  simp [IntKind.wrap, IntKind.bits, IntKind.signed]
  omega
theorem or_two (a b : Nat) (ha : a < 256) (hb : b < 256) : bits .or .i64 (a : Int) ((b * 256 : Nat) : Int) = ((a + 256 * b : Nat) : Int) := by
  rw [i64_or_nat a (b * 256) (by omega) (by omega), Nat.or_comm, nat_join 8 (b * 256) a (by omega) (by omega)]
  omega
theorem all_range_u8 : ∀ (xs ys : List Int), xs.length = ys.length → ((List.range xs.length).all fun i => xs.getD i 0 == ys.getD i 0) = (xs == ys)
  | [], [], _ => rfl
  | x :: xs, y :: ys, h => by
    have ih := all_range_u8 xs ys (by simpa using h)
    rw [List.length_cons, List.range_succ_eq_map, List.all_cons, List.all_map]
    simp only [List.getD_cons_zero, Function.comp_def, List.getD_cons_succ, ih]
    simp [List.cons_beq_cons]
  | [], _ :: _, h => by simp at h
  | _ :: _, [], h => by simp at h
theorem equalIn_u8 (d : Nat) (t e : TypeId) (n : Nat) (ht : Try.prog.underlying t = some (.array n e)) (he : Try.prog.underlying e = some (.int .u8)) (hsz : ∀ w, (sizeOf e).run Try.prog w = .ok 1 w)
    (xs ys : List Int) (hx : xs.length = n) (hy : ys.length = n) (w : World) :
    (Op.equalIn (d + 2) t (.agg (vals xs)) (.agg (vals ys))).run Try.prog w = .ok (xs == ys) w := by
  rw [← all_range_u8 xs ys (hx.trans hy.symm), hx, List.range_eq_range', Op.equalIn]
  simp only [Sem.run_bind, run_underlying ht, Result.andThen_ok, hsz, Std.Legacy.Range.forIn_eq_forIn_range', Std.Legacy.Range.size, Nat.sub_zero, Nat.add_sub_cancel, Nat.div_one]
  have hl : ∀ i ∈ List.range' 0 n 1, i < n := fun i hi => by simpa using (List.mem_range'_1.1 hi).2
  generalize List.range' 0 n 1 = l at hl ⊢
  induction l with
  | nil => simp
  | cons i l ih =>
    have hi : i < n := hl i (by simp)
    have px : (Go.part e (vals xs) (i * 1)).run Try.prog w = .ok (.int .u8 (xs.getD i 0)) w := by
      simp [Go.part, isAgg, run_underlying he, vals, List.getD, List.getElem?_eq_getElem (show i < xs.length by omega)]
    have py : (Go.part e (vals ys) (i * 1)).run Try.prog w = .ok (.int .u8 (ys.getD i 0)) w := by
      simp [Go.part, isAgg, run_underlying he, vals, List.getD, List.getElem?_eq_getElem (show i < ys.length by omega)]
    have pe : (Op.equalIn (d + 1) e (.int .u8 (xs.getD i 0)) (.int .u8 (ys.getD i 0))).run Try.prog w = .ok (xs.getD i 0 == ys.getD i 0) w := run_equalIn_int w d e .u8 .u8 _ _ he
    simp only [List.forIn_cons, Sem.run_bind, px, py, pe, Result.andThen_ok, List.all_cons]
    cases hb : (xs.getD i 0 == ys.getD i 0)
    · simp
    · simp only [Bool.not_true, Bool.false_eq_true, if_false, Sem.run_pure, Result.andThen_ok, Bool.true_and]
      exact ih fun j hj => hl j (by simp [hj])
theorem four_eq (a b c d : Int) (w : World) : (Op.equalIn 10000 93 (.agg #[.int .u8 a, .int .u8 b, .int .u8 c, .int .u8 d]) (.agg #[.int .u8 0, .int .u8 0, .int .u8 0, .int .u8 0])).run Try.prog w = .ok ([a, b, c, d] == ([0, 0, 0, 0] : List Int)) w := equalIn_u8 9998 93 5 4 Try.underlying93 Try.underlying5 size5N [a, b, c, d] [0, 0, 0, 0] rfl rfl w
/-! ### the header -/
abbrev En : Type := Sp × Nat
theorem entN_len (b : List Int) : (entS b).length = 16 := by simp [entS]
theorem entN_at (b : List Int) (k : Nat) (hk : k < 16) : (entS b)[k]'(by rw [entN_len]; exact hk) = (((b.getD (4 * k) 0).toNat, (b.getD (4 * k + 1) 0).toNat), (b.getD (4 * k + 2) 0).toNat + 256 * (b.getD (4 * k + 3) 0).toNat) := by simp [entS]
theorem HdOk.part {hs : List En} (h : HdOk hs) : Part (hs.map (·.1)) := ⟨fun s hs' => by
  obtain ⟨e, he, rfl⟩ := List.mem_map.1 hs'
  rcases h.ok e he with rfl | ⟨h1, h2, h3, h4⟩
  · exact .inl rfl
  · exact .inr ⟨by rw [h2]; unfold needS; omega, h3, h4⟩, h.once⟩
theorem HdOk.sub {hs : List En} (h : HdOk hs) (j : Nat) : HdOk (hs.take j) := ⟨fun e he => h.ok e (List.mem_of_mem_take he), fun i => by
  have := h.once i
  rw [← List.take_append_drop j hs, List.map_append, cnt_append] at this
  omega⟩
theorem place_zero {hs : List En} {j : Nat} (hj : j < hs.length) (h : HdOk (hs.take j)) (he : hs[j] = ((0, 0), 0)) : HdOk (hs.take (j + 1)) ∧ tkR ((hs.take (j + 1)).map (·.1)) = tkR ((hs.take j).map (·.1)) := by
  have e : hs.take (j + 1) = hs.take j ++ [((0, 0), 0)] := by rw [List.take_succ_eq_append_getElem hj, he]
  have hc : ∀ i, cnt ((hs.take (j + 1)).map (·.1)) i = cnt ((hs.take j).map (·.1)) i := fun i => by
    rw [e, List.map_append, cnt_append]
    show _ + cnt [(0, 0)] i = _
    rw [cnt_zz, Nat.add_zero]
  refine ⟨⟨fun x hx => ?_, fun i => by rw [hc]; exact h.once i⟩, ?_⟩
  · rw [e] at hx
    rcases List.mem_append.1 hx with hx | hx
    · exact h.ok x hx
    · rw [List.mem_singleton.1 hx]; exact .inl rfl
  · apply List.ext_getElem?
    intro i
    rw [tkR_get, tkR_get, hc]
theorem may_free {p : List Sp} {f m : Nat} (h : Q.mayB 2 (tkR p) (f : Int) (m : Int) false = true) : 1 ≤ m ∧ 2 ≤ f ∧ f + m ≤ 40 ∧ ∀ i, f ≤ i → i < f + m → cnt p i = 0 := by
  unfold Q.mayB at h
  rw [tkR_len, Bool.and_eq_true, decide_eq_true_iff] at h
  obtain ⟨⟨h1, h2, h3, h4⟩, h5⟩ := h
  have hfm : f + m ≤ 40 := by omega
  refine ⟨by omega, by omega, hfm, fun i hi1 hi2 => ?_⟩
  have := (allS_iff (T := tkR p) (f := f) (m := m) (by rw [tkR_len]; exact hfm) false).1 h5 i hi1 hi2
  rw [tkR_get, if_pos (by omega)] at this
  have := of_decide_eq_false (Option.some.inj this)
  omega
theorem place_ok {hs : List En} {j f m n : Nat} (hj : j < hs.length) (h : HdOk (hs.take j)) (he : hs[j] = ((f, m), n)) (hn : 1 ≤ n) (hm : m = needS n) (hmay : Q.mayB 2 (tkR ((hs.take j).map (·.1))) (f : Int) (m : Int) false = true) :
    HdOk (hs.take (j + 1)) ∧ Q.doS 2 (tkR ((hs.take j).map (·.1))) (f : Int) (m : Int) false true = tkR ((hs.take (j + 1)).map (·.1)) := by
  have e : hs.take (j + 1) = hs.take j ++ [((f, m), n)] := by rw [List.take_succ_eq_append_getElem hj, he]
  obtain ⟨h1, h2, h3, hfree⟩ := may_free hmay
  have hc : ∀ i, cnt ((hs.take (j + 1)).map (·.1)) i = cnt ((hs.take j).map (·.1)) i + (if f ≤ i ∧ i < f + m then 1 else 0) := fun i => by
    rw [e, List.map_append, cnt_append]
    show _ + cnt [(f, m)] i = _
    rw [cnt_sing]
  have hok : HdOk (hs.take (j + 1)) := by
    refine ⟨fun x hx => ?_, fun i => ?_⟩
    · rw [e] at hx
      rcases List.mem_append.1 hx with hx | hx
      · exact h.ok x hx
      · rw [List.mem_singleton.1 hx]; exact .inr ⟨hn, hm, h2, h3⟩
    · rw [hc]
      by_cases hi : f ≤ i ∧ i < f + m
      · rw [if_pos hi, hfree i hi.1 hi.2]; omega
      · rw [if_neg hi]; exact h.once i
  refine ⟨hok, ?_⟩
  have e2 : (hs.take (j + 1)).map (·.1) = (hs.take j).map (·.1) ++ [(f, m)] := by rw [e, List.map_append]; rfl
  have hp := hok.part
  rw [e2] at hp ⊢
  exact mark_step hp
theorem place_bad1 {hs : List En} {j f m n : Nat} (hj : j < hs.length) (he : hs[j] = ((f, m), n)) (hz : ((f, m), n) ≠ ((0, 0), 0)) (h : ¬ (1 ≤ n ∧ m = needS n)) : ¬ HdOk hs := fun hok => by
  have := hok.ok hs[j] (List.getElem_mem hj)
  rw [he] at this
  rcases this with h1 | h1
  · exact hz h1
  · exact h ⟨h1.1, h1.2.1⟩
theorem place_bad2 {hs : List En} {j f m n : Nat} (hj : j < hs.length) (he : hs[j] = ((f, m), n)) (hz : ((f, m), n) ≠ ((0, 0), 0)) (hmay : Q.mayB 2 (tkR ((hs.take j).map (·.1))) (f : Int) (m : Int) false = false) : ¬ HdOk hs := fun hok => by
  have h0 := hok.ok hs[j] (List.getElem_mem hj)
  rw [he] at h0
  rcases h0 with h1 | ⟨h1, h2, h3, h4⟩
  · exact hz h1
  · simp only at h1 h2 h3 h4
    have e : hs.take (j + 1) = hs.take j ++ [((f, m), n)] := by rw [List.take_succ_eq_append_getElem hj, he]
    have hm1 : 1 ≤ m := by rw [h2]; unfold needS; omega
    have hfree : ∀ i, f ≤ i → i < f + m → cnt ((hs.take j).map (·.1)) i = 0 := fun i hi1 hi2 => by
      have h5 := (hok.sub (j + 1)).once i
      have h6 : cnt ((hs.take (j + 1)).map (·.1)) i = cnt ((hs.take j).map (·.1)) i + 1 := by
        rw [e, List.map_append, cnt_append]
        show _ + cnt [(f, m)] i = _
        rw [cnt_sing, if_pos ⟨hi1, hi2⟩]
      have h7 : cnt ((hs.take j).map (·.1)) i + 1 ≤ 1 := by rw [← h6]; exact h5
      omega
    have hall : allS (tkR ((hs.take j).map (·.1))) f m false = true := (allS_iff (by rw [tkR_len]; exact h4) false).2 (fun i hi1 hi2 => by
      rw [tkR_get, if_pos (by omega), hfree i hi1 hi2]; rfl)
    unfold Q.mayB at hmay
    rw [tkR_len, decide_eq_true (by omega), Bool.true_and] at hmay
    rw [show (f : Int).toNat = f from Int.toNat_natCast f, show (m : Int).toNat = m from Int.toNat_natCast m, hall] at hmay
    cases hmay
end Go.Proofs.Ytdjhlpllffakpaa
