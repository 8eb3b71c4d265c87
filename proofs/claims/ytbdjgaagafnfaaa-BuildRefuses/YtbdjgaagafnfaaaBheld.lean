/-
  The document's ground of a column.
  A region that draws its order: what only reads is taken first, in a class of worlds that holds up to the last operation, which waits for all others (a store).
-/
import Derived.Test.YtbdjgaagafnfaaaBbase
import Derived.Deep.RegionHeld
set_option maxRecDepth 20000
namespace Go.Proofs.Ytbdjgaagafnfaaa
section
open C Go.RowKit

theorem rdiv_b (a b : Int) (w : World) (hb : 1 ≤ b) (hb1 : b ≤ 9223372036854775807) (h0 : -9223372036854775808 ≤ a) (h1 : a ≤ 9223372036854775807) : Calls Try.prog 31 #[.int .i64 a, .int .i64 b] w fun e w' => e = .returned (.int .i64 (a / b)) ∧ Below w.heap.size w w' :=
  (N.rdiv_hi a b w hb hb1 h0 h1).mono fun _ _ ⟨h, e⟩ => ⟨h, by rw [e]; exact Below.refl _ _⟩
/-- What the ground of a column is told as. -/
def toldG (cx cz : Int) (hs bs : List (List Int)) (x z : Int) : Ending :=
  .returned (.tuple #[.int .i64 (if nearB cx cz x z then gAt cx cz hs x z else 0), .int .i64 (if nearB cx cz x z then gAt cx cz bs x z else 0), .bool (nearB cx cz x z)])
set_option maxHeartbeats 2000000 in
theorem rground_c (cx cz x z : Int) (a a' : Option Addr) (c c' : Nat) (hs bs : List (List Int)) (w : World) (hx : -1000000000000000 ≤ x ∧ x ≤ 1000000000000000) (hz : -1000000000000000 ≤ z ∧ z ≤ 1000000000000000) (hcx : -1000000000000000 ≤ cx ∧ cx ≤ 1000000000000000) (hcz : -1000000000000000 ≤ cz ∧ cz ≤ 1000000000000000)
    (hH : Rows2 w a hs) (hB : Rows2 w a' bs) (oH : okG 128 hs) (oB : okG 4 bs) :
    Calls Try.prog 53 #[.agg #[.int .i64 cx, .int .i64 cz], .slice a 9 c, .slice a' 9 c', .int .i64 x, .int .i64 z] w fun e w' => e = toldG cx cz hs bs x z ∧ Below w.heap.size w w' := by
  obtain ⟨Post, hPost⟩ : ∃ Post : Ending → World → Prop, Post = fun e w' => e = toldG cx cz hs bs x z ∧ Below w.heap.size w w' := ⟨_, rfl⟩
  rw [← hPost]
  have HP : Hid (∀ e w', e = toldG cx cz hs bs x z → Below w.heap.size w w' → Post e w') := fun e w' h1 h2 => by rw [hPost]; exact ⟨h1, h2⟩
  clear hPost
  obtain ⟨x0, x1⟩ := hx
  obtain ⟨z0, z1⟩ := hz
  obtain ⟨cx0, cx1⟩ := hcx
  obtain ⟨cz0, cz1⟩ := hcz
  have Hdx : Hid (∀ w, Calls Try.prog 31 #[.int .i64 x, .int .i64 16] w fun e w' => e = .returned (.int .i64 (x / 16)) ∧ Below w.heap.size w w') := fun w => rdiv_b x 16 w (by decide) (by decide) (by omega) (by omega)
  have Hdz : Hid (∀ w, Calls Try.prog 31 #[.int .i64 z, .int .i64 16] w fun e w' => e = .returned (.int .i64 (z / 16)) ∧ Below w.heap.size w w') := fun w => rdiv_b z 16 w (by decide) (by decide) (by omega) (by omega)
  have Hmz : Hid (∀ w, Calls Try.prog 71 #[.int .i64 z, .int .i64 16] w fun e w' => e = .returned (.int .i64 (z % 16)) ∧ w' = w) := fun w => N.rmod_hi z 16 w (by decide) (by decide) (by omega) (by omega)
  have Hmx : Hid (∀ w, Calls Try.prog 71 #[.int .i64 x, .int .i64 16] w fun e w' => e = .returned (.int .i64 (x % 16)) ∧ w' = w) := fun w => N.rmod_hi x 16 w (by decide) (by decide) (by omega) (by omega)
  have HHs : Hid (Rows2 w a hs ∧ okG 128 hs) := ⟨hH, oH⟩
  have HBs : Hid (Rows2 w a' bs ∧ okG 4 bs) := ⟨hB, oB⟩
  have Hne : Hid (nearB cx cz x z = decide (0 ≤ x / 16 - cx + 1 ∧ x / 16 - cx + 1 ≤ 2 ∧ 0 ≤ z / 16 - cz + 1 ∧ z / 16 - cz + 1 ≤ 2)) := rfl
  have Hgh : Hid (gAt cx cz hs x z = (hs.getD ((z / 16 - cz + 1) * 3 + (x / 16 - cx + 1)).toNat []).getD (z % 16 * 16 + x % 16).toNat 0) := rfl
  have Hgb : Hid (gAt cx cz bs x z = (bs.getD ((z / 16 - cz + 1) * 3 + (x / 16 - cx + 1)).toNat []).getD (z % 16 * 16 + x % 16).toNat 0) := rfl
  have qx : -100000000000000 ≤ x / 16 ∧ x / 16 ≤ 100000000000000 := by omega
  have qz : -100000000000000 ≤ z / 16 ∧ z / 16 ≤ 100000000000000 := by omega
  have rx : 0 ≤ x % 16 ∧ x % 16 < 16 := by omega
  have rz : 0 ≤ z % 16 ∧ z % 16 < 16 := by omega
  clear hH hB oH oB
  generalize x / 16 = QX at *
  generalize z / 16 = QZ at *
  generalize x % 16 = RX at *
  generalize z % 16 = RZ at *
  obtain ⟨qx0, qx1⟩ := qx
  obtain ⟨qz0, qz1⟩ := qz
  obtain ⟨rx0, rx1⟩ := rx
  obtain ⟨rz0, rz1⟩ := rz
  have wx1 : IntKind.i64.wrap (QX - cx) = QX - cx := by rw [IntKind.wrap_i64]; omega
  have wx2 : IntKind.i64.wrap (QX - cx + 1) = QX - cx + 1 := by rw [IntKind.wrap_i64]; omega
  have wz1 : IntKind.i64.wrap (QZ - cz) = QZ - cz := by rw [IntKind.wrap_i64]; omega
  have wz2 : IntKind.i64.wrap (QZ - cz + 1) = QZ - cz + 1 := by rw [IntKind.wrap_i64]; omega
  have HX1 : Hid ((w.alloc (.cells #[.int .i64 cx, .int .i64 cz] 31)).heap[w.heap.size]? = some (.cells #[.int .i64 cx, .int .i64 cz] 31 (0, 0))) := heap_alloc_new w _
  have HB1 : Hid (Below w.heap.size w (w.alloc (.cells #[.int .i64 cx, .int .i64 cz] 31))) := (Below.refl _ w).alloc (Nat.le_refl _) _
  go_enter Try.func53, Try.ntmps53
  go_wp2_with fail
  generalize w.alloc (.cells #[.int .i64 cx, .int .i64 cz] 31) = W1 at *
  have hsome := since_some W1
  have k0 := fun s : Since W1 => Since.cell ((cell_of_row W1 w.heap.size 0 _ 31 (0, 0) HX1.out).trans rfl) s
  refine wp_region_since (by kernel_rfl) (by kernel_rfl) ?_
  repeat (go_big_quiet_step (first | (go_at_call 31; exact Calls.since (Hdx.out _))))
  refine wpQuiet_nil ?_
  rintro _ ⟨s, rfl⟩
  have HB2 : Hid (Below w.heap.size w s.w) := HB1.out.trans (s.bel.mono HB1.out.size)
  have HX2 : Hid (s.w.heap[w.heap.size]? = some (.cells #[.int .i64 cx, .int .i64 cz] 31 (0, 0))) := (s.bel.block _ (Array.getElem?_eq_some_iff.1 HX1.out).1).trans HX1.out
  generalize s.w = W2 at *
  clear hsome k0 HB1 HX1
  go_wp2_with fail
  have hsome := since_some W2
  have k1 := fun s : Since W2 => Since.cell ((cell_of_row W2 w.heap.size 1 _ 31 (0, 0) HX2.out).trans rfl) s
  refine wp_region_since (by kernel_rfl) (by kernel_rfl) ?_
  repeat (go_big_quiet_step (first | (go_at_call 31; exact Calls.since (Hdz.out _))))
  refine wpQuiet_nil ?_
  rintro _ ⟨s, rfl⟩
  have HB3 : Hid (Below w.heap.size w s.w) := HB2.out.trans (s.bel.mono HB2.out.size)
  generalize s.w = W3 at *
  clear hsome k1 HB2 HX2 wx1 wx2 wz1 wz2 Hdx Hdz
  obtain ⟨PX, hPX⟩ : ∃ p, QX - cx + 1 = p := ⟨_, rfl⟩
  obtain ⟨PZ, hPZ⟩ : ∃ p, QZ - cz + 1 = p := ⟨_, rfl⟩
  rw [hPX, hPZ] at Hne Hgh Hgb
  rw [hPX, hPZ]
  have no : (PX < 0 ∨ 2 < PX ∨ PZ < 0 ∨ 2 < PZ) → Post (.returned (.tuple #[.int .i64 0, .int .i64 0, .bool false])) W3 := fun h => HP.out _ _ (by unfold toldG; rw [Hne.out, decide_eq_false (by omega)]; rfl) HB3.out
  clear hPX hPZ
  by_cases p0 : PX < 0
  · have R := no (.inl p0)
    clear no HP Hne Hgh Hgb HHs HBs
    go_wp2
    exact bodyPost_ret (results_tmp3 (t := 10) (u := 11) (v := 12) rfl _ _ _) rfl R
  by_cases p1 : 2 < PX
  · have R := no (.inr (.inl p1))
    clear no HP Hne Hgh Hgb HHs HBs
    go_wp2
    exact bodyPost_ret (results_tmp3 (t := 10) (u := 11) (v := 12) rfl _ _ _) rfl R
  by_cases p2 : PZ < 0
  · have R := no (.inr (.inr (.inl p2)))
    clear no HP Hne Hgh Hgb HHs HBs
    go_wp2
    exact bodyPost_ret (results_tmp3 (t := 10) (u := 11) (v := 12) rfl _ _ _) rfl R
  by_cases p3 : 2 < PZ
  · have R := no (.inr (.inr (.inr p3)))
    clear no HP Hne Hgh Hgb HHs HBs
    go_wp2
    exact bodyPost_ret (results_tmp3 (t := 10) (u := 11) (v := 12) rfl _ _ _) rfl R
  clear no
  obtain ⟨nx, rfl⟩ := Int.eq_ofNat_of_zero_le (show 0 ≤ PX by omega)
  obtain ⟨nz, rfl⟩ := Int.eq_ofNat_of_zero_le (show 0 ≤ PZ by omega)
  obtain ⟨mx, rfl⟩ := Int.eq_ofNat_of_zero_le rx0
  obtain ⟨mz, rfl⟩ := Int.eq_ofNat_of_zero_le rz0
  have hi : nz * 3 + nx < 9 := by omega
  have hk : mz * 16 + mx < 256 := by omega
  rw [show ((nz : Int) * 3 + (nx : Int)).toNat = nz * 3 + nx by omega, show ((mz : Int) * 16 + (mx : Int)).toNat = mz * 16 + mx by omega] at Hgh Hgb
  obtain ⟨b1, o1, ai1, ci1, rfl, hc1, hI1⟩ := (HHs.out.1.on HB3.out).row (nz * 3 + nx) (by rw [HHs.out.2.1]; exact hi)
  obtain ⟨b2, o2, ai2, ci2, rfl, hc2, hI2⟩ := (HBs.out.1.on HB3.out).row (nz * 3 + nx) (by rw [HBs.out.2.1]; exact hi)
  rw [(HHs.out.2.2 _ hi).1] at hc1 hI1
  rw [(HBs.out.2.2 _ hi).1] at hc2 hI2
  obtain ⟨g1, q1, rfl⟩ := hI1.some (by omega)
  obtain ⟨g2, q2, rfl⟩ := hI2.some (by omega)
  have hd1 := hI1.at _ hk
  have hd2 := hI2.at _ hk
  rw [← Hgh.out] at hd1
  rw [← Hgb.out] at hd2
  have R : ∀ w', Below W3.heap.size W3 w' → Post (.returned (.tuple #[.int .i64 (gAt cx cz hs x z), .int .i64 (gAt cx cz bs x z), .bool true])) w' := fun w' hb => HP.out _ _ (by
    unfold toldG
    rw [Hne.out, decide_eq_true (by omega)]
    rfl) (HB3.out.trans (hb.mono HB3.out.size))
  generalize gAt cx cz hs x z = hv at *
  generalize gAt cx cz bs x z = bv at *
  have HR : Hid (∀ w', Below W3.heap.size W3 w' → Post (.returned (.tuple #[.int .i64 hv, .int .i64 bv, .bool true])) w') := R
  clear R HP Hne Hgh Hgb HHs HBs hI1 hI2
  have hi' : (nz : Int) * 3 + (nx : Int) < 9 := by omega
  have hk' : (mz : Int) * 16 + (mx : Int) < 256 := by omega
  go_wp2_with fail
  refine (Hmz.out _).mono ?_
  rintro _ w5 ⟨rfl, hw⟩
  replace hw := hw.symm
  subst hw
  go_wp2_with fail
  refine (Hmx.out _).mono ?_
  rintro _ w5 ⟨rfl, hw⟩
  replace hw := hw.symm
  subst hw
  clear Hmz Hmx
  obtain ⟨A1, hA1⟩ : ∃ A : Nat, nz * 3 + nx = A := ⟨_, rfl⟩
  obtain ⟨A2, hA2⟩ : ∃ A : Nat, mz * 16 + mx = A := ⟨_, rfl⟩
  rw [hA1] at hc1 hc2
  rw [hA2] at hd1 hd2
  have u1 : IntKind.i64.wrap ((nz : Int) * 3) = (nz : Int) * 3 := by rw [IntKind.wrap_i64]; omega
  have u2 : IntKind.i64.wrap ((nz : Int) * 3 + (nx : Int)) = (A1 : Int) := by rw [IntKind.wrap_i64]; omega
  have u3 : (mz : Int) * 16 + (mx : Int) = (A2 : Int) := by omega
  have bA1 : A1 < 9 := by omega
  have bA2 : A2 < 256 := by omega
  clear hA1 hA2
  go_wp2_with fail
  have hsome := since_some W3
  have k1 := fun s : Since W3 => Since.cell hc1 s
  have k2 := fun s : Since W3 => Since.cell hc2 s
  have k3 := fun s : Since W3 => Since.cell hd1 s
  have k4 := fun s : Since W3 => Since.cell hd2 s
  refine wp_region_since (by kernel_rfl) (by kernel_rfl) ?_
  repeat (go_big_quiet_step (fail))
  refine wpQuiet_nil ?_
  rintro _ ⟨s, rfl⟩
  have R := HR.out s.w s.bel
  clear HR k1 k2 k3 k4 hsome hc1 hc2 hd1 hd2
  go_wp2
  exact bodyPost_ret (results_tmp3 (t := 10) (u := 11) (v := 12) rfl _ _ _) rfl R
end
section
open Go.RowKit

/-- A world of a class. -/
structure Sub (S : World → Prop) where
  w : World
  ok : S w
/-- Whatever order is picked from here on, and S holds behind every operation but number n. -/
def wpAnyL (P : Program) (md : Region.Mode) (ops : Array Oper) (Q : Exit → Act → World → Prop) (S : World → Prop) (n : Nat) : Nat → Array Bool → Act → World → Prop
  | 0, listed, a, w => Region.ready md ops listed = [] ∧ Q .normal a w
  | fuel + 1, listed, a, w =>
    (Region.ready md ops listed = [] → Q .normal a w) ∧
    ∀ i ∈ Region.ready md ops listed, wpOp P ops Q i (fun a' w' => (i ≠ n → S w') ∧ wpAnyL P md ops Q S n fuel (listed.setIfInBounds i true) a' w') a w
section
variable {P : Program} {ops : Array Oper} {Q : Exit → Act → World → Prop} {md : Region.Mode} {S : World → Prop} {n : Nat}
theorem wpAny_of_heldL : ∀ (fuel : Nat) (listed : Array Bool) (a : Act) (w : World), wpAnyL P md ops Q S n fuel listed a w → wpAny P md ops Q fuel listed a w
  | 0, _, _, _, h => h
  | fuel + 1, _, _, _, h => ⟨h.1, fun i hi => wpOp_mono (fun a' w' h' => wpAny_of_heldL fuel _ a' w' h'.2) (h.2 i hi)⟩
/-- Number n waits for number i, or there is no number n. -/
def waitsB (md : Region.Mode) (ops : Array Oper) (n i : Nat) : Bool := ((ops[n]?).map fun o => o.after.any fun e => Region.binds md e && e.on == i).getD true
theorem waits_spec {listed : Array Bool} {i : Nat} (h : waitsB md ops n i = true) (hr : i ∈ Region.ready md ops listed) : n ∉ Region.ready md ops listed := fun hn => by
  obtain ⟨_, o, ho, hall⟩ := mem_ready.1 hn
  unfold waitsB at h
  rw [ho] at h
  obtain ⟨e, he, heb⟩ := Array.any_eq_true'.1 h
  simp only [Bool.and_eq_true, beq_iff_eq] at heb
  have h1 := hall e he heb.1
  rw [heb.2] at h1
  have h0 := (mem_ready.1 hr).1
  rcases Nat.lt_or_ge i listed.size with h' | h'
  · simp [h'] at h0 h1; rw [h0] at h1; cases h1
  · simp [Array.getElem?_eq_none h'] at h1
theorem wpAnyL_first {i : Nat} {oi : Oper} {v : Value} (hi : ops[i]? = some oi) (hsel : ∀ (j : Nat) (o : Oper) cs b, ops[j]? = some o → o.op ≠ .select cs b)
    (hQ : ∀ c a w, Q (.panic c) (a.put oi.dst v) w → Q (.panic c) a w) (hin : waitsB md ops n i = true) :
    ∀ (fuel : Nat) (listed : Array Bool) (a : Act) (w : World),
      (∀ j oj, ops[j]? = some oj → j ≠ i → listed.getD j true = false → (∀ e ∈ oj.after, Region.binds md e = true → e.on ≠ i) → oi.apart ops oj = true) →
      i ∈ Region.ready md ops listed → YieldsIf P ops S oi v a → S w →
      wpAnyL P md ops Q S n fuel (listed.setIfInBounds i true) (a.put oi.dst v) w → wpAnyL P md ops Q S n (fuel + 1) listed a w := by
  intro fuel
  induction fuel with
  | zero =>
    intro listed a w _ hr hy hS H
    refine ⟨fun h => (by rw [h] at hr; cases hr), fun j hj => ?_⟩
    by_cases hji : j = i
    · subst hji; exact hy.wpOp hi hS ⟨fun _ => hS, H⟩
    · have := ready_mono hj hji
      rw [H.1] at this
      cases this
  | succ fuel ih =>
    intro listed a w hfree hr hy hS H
    refine ⟨fun h => (by rw [h] at hr; cases hr), fun j hj => ?_⟩
    have hjn : j ≠ n := fun e => waits_spec hin hr (e ▸ hj)
    by_cases hji : j = i
    · subst hji; exact hy.wpOp hi hS ⟨fun _ => hS, H⟩
    · have h1 := H.2 j (ready_mono hj hji)
      obtain ⟨hjun, oj, hoj, hall⟩ := mem_ready.1 hj
      have hnot : ∀ e ∈ oj.after, Region.binds md e = true → e.on ≠ i := fun e he hb heq => by
        have h1 := hall e he hb
        have h0 := (mem_ready.1 hr).1
        rw [heq] at h1
        rcases Nat.lt_or_ge i listed.size with h' | h'
        · simp [h'] at h0 h1; rw [h0] at h1; cases h1
        · simp [Array.getElem?_eq_none h'] at h1
      have h2 := wpOp_putIf hoj (hfree j oj hoj hji hjun hnot) (fun cs b => hsel i oi cs b hi) (fun cs b => hsel j oj cs b hoj) hQ hy h1
      have hfree' : ∀ k ok, ops[k]? = some ok → k ≠ i → (listed.setIfInBounds j true).getD k true = false →
          (∀ e ∈ ok.after, Region.binds md e = true → e.on ≠ i) → oi.apart ops ok = true := fun k ok hk hki hun hno => by
        refine hfree k ok hk hki ?_ hno
        by_cases hjk : j = k
        · subst hjk; exact hjun
        · rw [getD_set_ne true hjk] at hun; exact hun
      refine wpOp_mono (fun a' w' h3 => ⟨h3.2.1, ih (listed.setIfInBounds j true) a' w' hfree' (ready_mono hr (Ne.symm hji)) h3.1 (h3.2.1 hjn) ?_⟩) h2
      rw [Array.setIfInBounds_comm _ _ hji]
      exact h3.2.2
/-- What only reads is taken first: one value in each world of the class. -/
theorem take_L {i : Nat} {oi : Oper} {fuel : Nat} {listed : Array Bool} {a : Act} {w : World} (hi : ops[i]? = some oi)
    (hs : Region.noSelect ops = true) (hf : Region.free md ops listed i = true) (hr : (Region.ready md ops listed).contains i = true) (hin : waitsB md ops n i = true)
    (hQ : ∀ v c a w, Q (.panic c) (a.put oi.dst v) w → Q (.panic c) a w) (hS : S w)
    (h : ∀ K : Act → Prop, (∀ a, wpAnyL P md ops Q S n fuel (listed.setIfInBounds i true) a w → K a) → if Region.wanted oi (yielded ops a.tmps) = true then ∃ v, (∀ s : Sub S, (execOp a.eval oi).run P s.w = .ok (.value v) s.w) ∧ K (a.put oi.dst v) else K (a.put oi.dst undef)) :
    wpAnyL P md ops Q S n (fuel + 1) listed a w := by
  have h' := h _ (fun _ h => h)
  by_cases hw : Region.wanted oi (yielded ops a.tmps) = true
  · rw [if_pos hw] at h'
    obtain ⟨v, hv, hk⟩ := h'
    exact wpAnyL_first hi (Region.noSelect_spec hs) (hQ v) hin fuel listed a w (Region.free_spec hi hf) (by simpa using hr) (Or.inl ⟨hw, fun w hS => hv ⟨w, hS⟩⟩) hS hk
  · rw [if_neg hw] at h'
    exact wpAnyL_first hi (Region.noSelect_spec hs) (hQ undef) hin fuel listed a w (Region.free_spec hi hf) (by simpa using hr) (Or.inr ⟨by simpa using hw, rfl⟩) hS h'
/-- Just one may come up. -/
theorem one_L {i : Nat} {o : Oper} {fuel : Nat} {listed : Array Bool} {a : Act} {w : World} (hr : Region.ready md ops listed = [i]) (ho : ops[i]? = some o)
    (h : ∀ K' : Act → World → Prop, Shut (∀ a w, (i ≠ n → S w) → wpAnyL P md ops Q S n fuel (listed.setIfInBounds i true) a w → K' a w) → if Region.wanted o (yielded ops a.tmps) = true then Oper.wp P o a w K' Q else K' (a.put o.dst undef) w) : wpAnyL P md ops Q S n (fuel + 1) listed a w :=
  ⟨fun h0 => (by rw [hr] at h0; cases h0), fun j hj => (by
    rw [hr] at hj
    obtain rfl := List.mem_singleton.1 hj
    exact wpOp_step ho (fun K' hK => h K' (fun a w hS hW => hK a w ⟨hS, hW⟩)))⟩
theorem done_L {listed : Array Bool} {a : Act} {w : World} (hr : Region.ready md ops listed = []) (h : Q .normal a w) : ∀ fuel, wpAnyL P md ops Q S n fuel listed a w
  | 0 => ⟨hr, h⟩
  | _ + 1 => ⟨fun _ => h, by rw [hr]; simp⟩
/-- A class made narrower. -/
theorem wpAnyL_strong {S' : World → Prop} (hS : ∀ w, S' w → S w) : ∀ (fuel : Nat) (listed : Array Bool) (a : Act) (w : World), wpAnyL P md ops Q S' n fuel listed a w → wpAnyL P md ops Q S n fuel listed a w
  | 0, _, _, _, h => h
  | fuel + 1, _, _, _, h => ⟨h.1, fun i hi => wpOp_mono (fun a' w' h' => ⟨fun hn => hS w' (h'.1 hn), wpAnyL_strong hS fuel _ a' w' h'.2⟩) (h.2 i hi)⟩
theorem region_L (S : World → Prop) (n : Nat) {id : Nat} {a : Act} {w : World} (hm : P.follows .mixedOrders = true)
    (h : wpAnyL P .any ops Q S n ops.size (Array.replicate ops.size false) a w.drew) : (Code.region id ops true).wp P Q a w :=
  wp_region_any hm (wpAny_of_heldL _ _ _ _ h)
end
end
end Go.Proofs.Ytbdjgaagafnfaaa
