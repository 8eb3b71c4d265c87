/-
  The library's Clone and Max, over bytes.
-/
import Derived.Test.YtmfjmcaaoljjlaaDoorMtells
import Derived.Test.YtmfjmcaaoljjlaaDoorRd2
set_option maxRecDepth 20000
namespace Go.Proofs.YtmfjmcaaoljjlaaDoor
open C Go.RowKit L

/-- All of a row behind an empty one of one's own. -/
theorem wpList_append_src0 {w : World} {ops : Array Oper} {rest : List Oper} {o : Oper} {a : Act} {Q : Exit → Act → World → Prop} (hgd : o.guard = none) (s x : Operand)
    (ho : o.op = .call { callee := .builtin .append, args := #[s, x], argTypes := #[22, 22] }) (ad : Option Addr) (n c : Nat) (bs : List Int) (h0 : 0 < n) (hn : n ≤ 1000000) (hP : Src w ad n bs) (B g0 : Nat) (hB : B ≤ g0) (hg0 : w.heap[g0]? = some (.cells #[] 5 (0, 0))) (hs : a.eval s = .slice (some ⟨g0, 0, none⟩) 0 0) (hx : a.eval x = .slice ad n c)
    (h : ∀ g' c' w', Pre w' g' 5 bs → w.grownBy w' (some g0) → B ≤ g' → wpList Tryd.prog ops Q rest (a.put o.dst (.slice (some ⟨g', 0, none⟩) n c')) w') : wpList Tryd.prog ops Q (o :: rest) a w := by
  obtain ⟨i, hi, hz0, hz1, hz2⟩ := info_parts C.info5
  obtain ⟨b, off, rfl, _, _⟩ := hP.cells 0 h0
  have hl := hP.len
  have hlt := (Array.getElem?_eq_some_iff.1 hg0).1
  refine wpList_append_own_at w hgd s x 22 ho B 5 i _ 1 1 Tryd.underlying22 hi hz0 hz1 hz2 rfl (by decide) (.slice (some ⟨g0, 0, none⟩) 0 0) 0 [] hs ⟨rfl, .inr ⟨g0, 0, #[], rfl, hB, hg0, Nat.le_refl _, by decide, rfl, rfl⟩⟩ ⟨b, off, none⟩ n c (bs.map (Value.int .u8)) hx (by simp [hl]) (fun j u hj => ?_) (by simp [Value.oneCell']) (by unfold maxLen; omega) (by omega) (by omega) ?_
  · rw [List.getElem?_map] at hj
    obtain ⟨v, hv, rfl⟩ := Option.map_eq_some_iff.1 hj
    have hjl := (List.getElem?_eq_some_iff.1 hv).1
    rw [Addr.add_mid]
    obtain ⟨b', o', e, _, hc⟩ := hP.cells j (by omega)
    cases e
    rw [hc, List.getD_eq_getElem?_getD, hv]
    rfl
  · intro v' w' h1 h2 _ h4
    rcases h1.2 with ⟨hv, hn'⟩ | ⟨g', cap, cur, hv, hlo, hh, hk, _, hsz, ht⟩
    · omega
    · subst hv
      rw [Nat.zero_add] at hk ht ⊢
      refine h g' cap w' ⟨cur, hh, ?_, fun k hk' => ?_⟩ h2 hlo
      · rw [hl]; omega
      · have := congrArg (fun l => l[k]?) ht
        simp only [List.nil_append, List.getElem?_map, List.getElem?_take] at this
        rw [if_pos (by omega)] at this
        rw [← Array.getElem?_toList, this, List.getD_eq_getElem?_getD, List.getElem?_eq_getElem hk']
        rfl
set_option maxHeartbeats 1000000 in
theorem clone_c (a : Option Addr) (n c : Nat) (bs : List Int) (w : World) (h0 : 0 < n) (hn : n ≤ 1000000) (hS : Src w a n bs) :
    Calls Tryd.prog 19 #[.slice a n c] w fun x w' => ∃ g' c', x = .returned (.slice (some ⟨g', 0, none⟩) n c') ∧ Pre w' g' 5 bs ∧ Below w.heap.size w w' ∧ w.heap.size ≤ g' := by
  obtain ⟨Post, hPost⟩ : ∃ Post : Ending → World → Prop, Post = fun x w' => ∃ g' c', x = .returned (.slice (some ⟨g', 0, none⟩) n c') ∧ Pre w' g' 5 bs ∧ Below w.heap.size w w' ∧ w.heap.size ≤ g' := ⟨_, rfl⟩
  rw [← hPost]
  have HP : Hid (∀ g' c' w', Pre w' g' 5 bs → Below w.heap.size w w' → w.heap.size ≤ g' → Post (.returned (.slice (some ⟨g', 0, none⟩) n c')) w') := fun g' c' w' h1 h2 h3 => by rw [hPost]; exact ⟨g', c', rfl, h1, h2, h3⟩
  clear hPost
  obtain ⟨b, off, rfl, _, _⟩ := hS.cells 0 h0
  have hb : Below w.heap.size w (w.alloc (.cells #[] 5)) := (Below.refl _ _).alloc (Nat.le_refl _) _
  have HS : Hid (Src (w.alloc (.cells #[] 5)) (some ⟨b, off, none⟩) n bs ∧ Below w.heap.size w (w.alloc (.cells #[] 5)) ∧ (w.alloc (.cells #[] 5)).heap[w.heap.size]? = some (.cells #[] 5 (0, 0))) := ⟨hS.on hb (Nat.le_refl _), hb, heap_alloc_new w _⟩
  clear hS hb
  have hne : (binOp BinOp.eql 22 (.slice (some ⟨b, off, none⟩) n c) (.slice none 0 0)).run Tryd.prog w = .ok (.bool false) w := by kernel_rfl
  go_enter Tryd.func19, Tryd.ntmps19
  go_wp2_with (at_builtin; refine wpList_append_src0 rfl _ _ rfl _ n c bs h0 hn HS.out.1 w.heap.size w.heap.size (Nat.le_refl _) HS.out.2.2 rfl rfl ?_; intro gk ck w2 hp2 hg2 hb2; have HP2 : Hid (Pre w2 gk 5 bs ∧ Below w.heap.size w w2 ∧ w.heap.size ≤ gk) := ⟨hp2, ⟨hg2.os.trans HS.out.2.1.os, hg2.tape.trans HS.out.2.1.tape, hg2.output.trans HS.out.2.1.output, Nat.le_trans HS.out.2.1.size hg2.size, fun j hj => (hg2.block j (Nat.lt_of_lt_of_le hj HS.out.2.1.size) (fun e => by injection e with e; omega)).trans (HS.out.2.1.block j hj)⟩, hb2⟩; clear hp2 hg2 hb2)
  have R := HP.out gk ck w2 HP2.out.1 HP2.out.2.1 HP2.out.2.2
  clear HP HP2 HS
  first | exact R | (go_ret; exact R)
set_option maxHeartbeats 2000000 in
theorem max_c (a : Option Addr) (n c : Nat) (bs : List Int) (w : World) (h0 : 0 < n) (hn : n ≤ 1000000) (hS : Src w a n bs) :
    Calls Tryd.prog 18 #[.slice a n c] w fun x w' => ∃ M : Int, x = .returned (.int .u8 M) ∧ (16 < M ↔ ¬ Kinds bs) ∧ w' = w := by
  obtain ⟨Post, hPost⟩ : ∃ Post : Ending → World → Prop, Post = fun x w' => ∃ M : Int, x = .returned (.int .u8 M) ∧ (16 < M ↔ ¬ Kinds bs) ∧ w' = w := ⟨_, rfl⟩
  rw [← hPost]
  have HP : Hid (∀ M : Int, (16 < M ↔ ¬ Kinds bs) → Post (.returned (.int .u8 M)) w) := fun M h => by rw [hPost]; exact ⟨M, rfl, h, rfl⟩
  clear hPost
  obtain ⟨b, off, rfl, _, hc0⟩ := hS.cells 0 h0
  have HS : Hid (Src w (some ⟨b, off, none⟩) n bs) := hS
  have hnn : ¬ (n : Int) < 1 := by omega
  obtain ⟨v0, hv0⟩ : ∃ v, bs.getD 0 0 = v := ⟨_, rfl⟩
  have hb0 := hS.byte 0
  rw [hv0] at hc0 hb0
  obtain ⟨b1, b2⟩ := hb0
  have H0 : Hid ((∀ j, j < 1 → bs.getD j 0 ≤ v0) ∧ ∃ j, j < 1 ∧ bs.getD j 0 = v0) := by
    refine ⟨fun j hj => ?_, 0, by omega, hv0⟩
    obtain rfl : j = 0 := by omega
    rw [hv0]
    exact Int.le_refl _
  rw [Nat.add_zero] at hc0
  clear hS hv0
  go_enter Tryd.func18, Tryd.ntmps18
  go_wp2_with fail
  clear hc0
  go_loopw [3, 4] (fun vm vi wr => ∃ (i : Nat) (M : Int), 1 ≤ i ∧ i ≤ n ∧ vi = .int .i64 (i : Int) ∧ vm = .int .u8 M ∧ 0 ≤ M ∧ M ≤ 255 ∧ wr = w ∧ Hid ((∀ j, j < i → bs.getD j 0 ≤ M) ∧ ∃ j, j < i ∧ bs.getD j 0 = M)) (fun _ vi _ => n - (intOf vi).toNat)
  case atStart => exact ⟨1, v0, by omega, by omega, rfl, rfl, b1, b2, rfl, H0⟩
  case round =>
    clear H0
    obtain ⟨i, M, hi1, hi, rfl, rfl, m0, m1, rfl, HK⟩ := hrel
    by_cases hlt : i < n
    case neg =>
      have hlt' : ¬ (i : Int) < (n : Int) := by omega
      have R := HP.out M (by
        obtain ⟨h1, j, hj, h2⟩ := HK.out
        have hl := HS.out.len
        constructor
        · intro q hk
          have := (hk.at j).2
          omega
        · intro q
          by_cases hM : 16 < M
          · exact hM
          · refine absurd (fun x hx => ?_) q
            obtain ⟨t, ht, rfl⟩ := List.getElem_of_mem hx
            have h3 := h1 t (by omega)
            have h4 := (HS.out.byte t).1
            rw [List.getD_eq_getElem?_getD, List.getElem?_eq_getElem ht] at h3 h4
            exact ⟨h4, by have h3 : bs[t] ≤ M := h3; omega⟩)
      clear HK HP HS
      go_wp2
      first | exact R | (go_ret; exact R)
    have hlt' : (i : Int) < (n : Int) := by omega
    obtain ⟨b', off', e, _, hc⟩ := HS.out.cells i hlt
    cases e
    have wi : IntKind.i64.wrap ((i : Int) + 1) = ((i + 1 : Nat) : Int) := by rw [IntKind.wrap_i64]; omega
    obtain ⟨k0, k1⟩ := HS.out.byte i
    obtain ⟨kv, hkv⟩ : ∃ kv, bs.getD i 0 = kv := ⟨_, rfl⟩
    rw [hkv] at hc k0 k1
    have HK2 : Hid ((∀ j, j < i + 1 → bs.getD j 0 ≤ mxI M kv) ∧ ∃ j, j < i + 1 ∧ bs.getD j 0 = mxI M kv) := by
      obtain ⟨h1, j, hj, h2⟩ := HK.out
      unfold mxI
      split
      · refine ⟨fun t ht => ?_, i, by omega, hkv⟩
        by_cases q : t = i
        · rw [q, hkv]; exact Int.le_refl _
        · have := h1 t (by omega); omega
      · refine ⟨fun t ht => ?_, j, by omega, h2⟩
        by_cases q : t = i
        · rw [q, hkv]; omega
        · exact h1 t (by omega)
    have hm0 : 0 ≤ mxI M kv ∧ mxI M kv ≤ 255 := by unfold mxI; split <;> omega
    clear HK hkv
    go_wp2
    exact ⟨⟨i + 1, mxI M kv, by omega, by omega, by simp, rfl, hm0.1, hm0.2, by first | rfl | trivial, HK2⟩, by simp [intOf]; omega⟩
end Go.Proofs.YtmfjmcaaoljjlaaDoor
