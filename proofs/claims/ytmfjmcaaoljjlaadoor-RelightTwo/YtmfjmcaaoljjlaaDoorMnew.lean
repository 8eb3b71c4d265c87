/-
  The document's New and Set.
-/
import Derived.Test.YtmfjmcaaoljjlaaDoorMsrc
import Derived.Deep.DeepCutAuto
import Derived.Test.YtmfjmcaaoljjlaaDoorMnb
set_option maxRecDepth 20000
namespace Go.Proofs.YtmfjmcaaoljjlaaDoor
open C Go.RowKit L

/-- A copy of bytes by an append to none. -/
theorem wpList_append_src {w : World} {ops : Array Oper} {rest : List Oper} {o : Oper} {a : Act} {Q : Exit → Act → World → Prop} (hgd : o.guard = none) (s x : Operand)
    (ho : o.op = .call { callee := .builtin .append, args := #[s, x], argTypes := #[22, 22] }) (ad : Option Addr) (n c : Nat) (bs : List Int) (h0 : 0 < n) (hn : n ≤ 1000000) (hP : Src w ad n bs) (hs : a.eval s = .slice none 0 0) (hx : a.eval x = .slice ad n c)
    (h : ∀ g' c' w', Pre w' g' 5 bs → Below w.heap.size w w' → w.heap.size ≤ g' → wpList Tryd.prog ops Q rest (a.put o.dst (.slice (some ⟨g', 0, none⟩) n c')) w') : wpList Tryd.prog ops Q (o :: rest) a w := by
  obtain ⟨i, hi, hz0, hz1, hz2⟩ := info_parts C.info5
  obtain ⟨b, off, rfl, _, _⟩ := hP.cells 0 h0
  have hl := hP.len
  refine wpList_append_own_at w hgd s x 22 ho w.heap.size 5 i _ 1 1 Tryd.underlying22 hi hz0 hz1 hz2 rfl (by decide) (.slice none 0 0) 0 [] hs (World.ownsRow_nil _ _ _ _) ⟨b, off, none⟩ n c (bs.map (Value.int .u8)) hx (by simp [hl]) (fun j u hj => ?_) (by simp [Value.oneCell']) (by unfold maxLen; omega) (by omega) (Nat.le_refl _) ?_
  · rw [List.getElem?_map] at hj
    obtain ⟨v, hv, rfl⟩ := Option.map_eq_some_iff.1 hj
    have hjl := (List.getElem?_eq_some_iff.1 hv).1
    rw [Addr.add_mid]
    obtain ⟨b', o', e, _, hc⟩ := hP.cells j (by omega)
    cases e
    rw [hc, List.getD_eq_getElem?_getD, hv]
    rfl
  · intro v' w' h1 h2 _ h4
    rcases h1.2 with ⟨hv, hn'⟩ | ⟨g', cap, cur, hv, hlo, hh, hk, _, hsz, ht⟩
    · omega
    · subst hv
      rw [Nat.zero_add] at hk ht ⊢
      refine h g' cap w' ⟨cur, hh, ?_, fun k hk' => ?_⟩ ⟨h2.os, h2.tape, h2.output, h2.size, fun k hk => h2.block k hk (by simp [Value.ownBlock])⟩ hlo
      · rw [hl]; omega
      · have := congrArg (fun l => l[k]?) ht
        simp only [List.nil_append, List.getElem?_map, List.getElem?_take] at this
        rw [if_pos (by omega)] at this
        rw [← Array.getElem?_toList, this, List.getD_eq_getElem?_getD, List.getElem?_eq_getElem hk']
        rfl
def OkDims (W D T : Int) (n : Nat) : Prop := (1 ≤ W ∧ W ≤ 32 ∧ 1 ≤ D ∧ D ≤ 32 ∧ 1 ≤ T ∧ T ≤ 32) ∧ (n : Int) = W * D * T
/-- What New answers; R: what is said of the field. -/
def NewAs (W D T : Int) (n : Nat) (bs : List Int) (w : World) (R : Nat → World → Prop) (e : Ending) (w' : World) : Prop :=
  (¬ OkDims W D T n ∧ e = .returned (.tuple #[.pointer none, .int .i64 1]) ∧ Below w.heap.size w w') ∨
  (OkDims W D T n ∧ ¬ Kinds bs ∧ e = .returned (.tuple #[.pointer none, .int .i64 10]) ∧ Below w.heap.size w w') ∨
  (OkDims W D T n ∧ Kinds bs ∧ ∃ g, e = .returned (.tuple #[.pointer (some ⟨g, 0, none⟩), .int .i64 0]) ∧ R g w' ∧ Below w.heap.size w w')
/-- The document's field in memory. -/
def RF (w : World) (W D T : Int) (n : Nat) (bs : List Int) (g : Nat) (w' : World) : Prop := ∃ kb cap, Fd w' g W D T (.slice (some ⟨kb, 0, none⟩) n cap) ∧ Pre w' kb 5 bs ∧ w.heap.size ≤ kb ∧ w.heap.size ≤ g
theorem dims_nat {W D T : Int} {n : Nat} (h : 1 ≤ W ∧ W ≤ 32 ∧ 1 ≤ D ∧ D ≤ 32 ∧ 1 ≤ T ∧ T ≤ 32) : ∃ M N : Nat, W * D = (M : Int) ∧ (M : Int) * T = (N : Int) ∧ M ≤ 1024 ∧ N ≤ 32768 ∧ 1 ≤ N ∧ (OkDims W D T n ↔ n = N) := by
  obtain ⟨a1, a2, b1, b2, c1, c2⟩ := h
  obtain ⟨W, rfl⟩ := Int.eq_ofNat_of_zero_le (show 0 ≤ W by omega)
  obtain ⟨D, rfl⟩ := Int.eq_ofNat_of_zero_le (show 0 ≤ D by omega)
  obtain ⟨T, rfl⟩ := Int.eq_ofNat_of_zero_le (show 0 ≤ T by omega)
  have h1 : W * D ≤ 32 * 32 := Nat.mul_le_mul (by omega) (by omega)
  have h2 : W * D * T ≤ 1024 * 32 := Nat.mul_le_mul h1 (by omega)
  have h3 : 0 < W * D * T := Nat.mul_pos (Nat.mul_pos (by omega) (by omega)) (by omega)
  refine ⟨W * D, W * D * T, by simp, by simp, h1, h2, h3, ?_⟩
  unfold OkDims
  constructor
  · intro h
    have := h.2
    norm_cast at this
  · intro h
    exact ⟨⟨by omega, by omega, by omega, by omega, by omega, by omega⟩, by rw [h]; simp⟩
set_option maxHeartbeats 2000000 in
theorem rnew_c (W D T : Int) (a : Option Addr) (n c : Nat) (bs : List Int) (w : World) (hn : n ≤ 1000000) (hS : Src w a n bs) :
    Calls Tryd.prog 11 #[.int .i64 W, .int .i64 D, .int .i64 T, .slice a n c] w (NewAs W D T n bs w (RF w W D T n bs)) := by
  obtain ⟨Post, hPost⟩ : ∃ Post, NewAs W D T n bs w (RF w W D T n bs) = Post := ⟨_, rfl⟩
  rw [hPost]
  have H1 : Hid (¬ OkDims W D T n → Post (.returned (.tuple #[.pointer none, .int .i64 1])) w) := fun h => by rw [← hPost]; exact .inl ⟨h, rfl, Below.refl _ _⟩
  have H2 : Hid (OkDims W D T n → ¬ Kinds bs → Post (.returned (.tuple #[.pointer none, .int .i64 10])) w) := fun h k => by rw [← hPost]; exact .inr (.inl ⟨h, k, rfl, Below.refl _ _⟩)
  have H3 : Hid (∀ g w', OkDims W D T n → Kinds bs → RF w W D T n bs g w' → Below w.heap.size w w' → Post (.returned (.tuple #[.pointer (some ⟨g, 0, none⟩), .int .i64 0])) w') := fun g w' h k r b => by rw [← hPost]; exact .inr (.inr ⟨h, k, g, rfl, r, b⟩)
  have HS : Hid (Src w a n bs) := hS
  clear hPost hS
  go_enter Tryd.func11, Tryd.ntmps11
  by_cases a1 : 1 ≤ W
  case neg =>
    have R := H1.out (fun h => a1 (by have := h.1; omega))
    clear H1 H2 H3
    clear HS
    go_wp2
    first | exact R | (go_ret2; exact R)
  by_cases a2 : W ≤ 32
  case neg =>
    have R := H1.out (fun h => a2 (by have := h.1; omega))
    clear H1 H2 H3
    clear HS
    go_wp2
    first | exact R | (go_ret2; exact R)
  by_cases b1 : 1 ≤ D
  case neg =>
    have R := H1.out (fun h => b1 (by have := h.1; omega))
    clear H1 H2 H3
    clear HS
    go_wp2
    first | exact R | (go_ret2; exact R)
  by_cases b2 : D ≤ 32
  case neg =>
    have R := H1.out (fun h => b2 (by have := h.1; omega))
    clear H1 H2 H3
    clear HS
    go_wp2
    first | exact R | (go_ret2; exact R)
  by_cases c1 : 1 ≤ T
  case neg =>
    have R := H1.out (fun h => c1 (by have := h.1; omega))
    clear H1 H2 H3
    clear HS
    go_wp2
    first | exact R | (go_ret2; exact R)
  by_cases c2 : T ≤ 32
  case neg =>
    have R := H1.out (fun h => c2 (by have := h.1; omega))
    clear H1 H2 H3
    clear HS
    go_wp2
    first | exact R | (go_ret2; exact R)
  obtain ⟨M, N, m1, m2, mb, nb, n1, hN⟩ := dims_nat (n := n) ⟨a1, a2, b1, b2, c1, c2⟩
  by_cases hnN : n = N
  case neg =>
    have R := H1.out (fun h => hnN (hN.1 h))
    have hne : ¬ (n : Int) = (N : Int) := by omega
    have hne2 : ((n : Int) != (N : Int)) = true := by simpa using hne
    clear H1 H2 H3 hN
    clear HS
    go_wp2
    first | exact R | (go_ret2; exact R)
  have HOk : Hid (OkDims W D T n) := hN.2 hnN
  clear H1 hN
  obtain rfl : n = N := hnN
  have H0 : Hid (∀ j, j < 0 → bs.getD j 0 ≤ 16) := fun j h => absurd h (Nat.not_lt_zero _)
  go_wp2
  go_loopw [10] (fun vi wr => ∃ i : Nat, i ≤ n ∧ vi = .int .i64 (i : Int) ∧ wr = w ∧ Hid (∀ j, j < i → bs.getD j 0 ≤ 16)) (fun vi _ => n - (intOf vi).toNat)
  case atStart => exact ⟨0, by omega, rfl, rfl, H0⟩
  case round =>
    clear H0
    obtain ⟨i, hi, rfl, rfl, HK⟩ := hrel
    by_cases hlt : i < n
    case pos =>
      have hlt' : (i : Int) < (n : Int) := by omega
      obtain ⟨b, off, rfl, _, hc⟩ := HS.out.cells i hlt
      have wi : IntKind.i64.wrap ((i : Int) + 1) = ((i + 1 : Nat) : Int) := by rw [IntKind.wrap_i64]; omega
      obtain ⟨k0, k1⟩ := HS.out.byte i
      obtain ⟨kv, hkv⟩ : ∃ kv, bs.getD i 0 = kv := ⟨_, rfl⟩
      have Hkv : Hid (bs.getD i 0 = kv) := hkv
      rw [hkv] at hc k0 k1
      clear hkv
      by_cases hk : 16 < kv
      case pos =>
        have R := H2.out HOk.out (fun h => by have := (h.at i).2; rw [Hkv.out] at this; omega)
        clear H2 H3 HK HS HOk
        go_wp2
        first | exact R | (go_ret2; exact R)
      have HK2 : Hid (∀ j, j < i + 1 → bs.getD j 0 ≤ 16) := fun j hj => by
        by_cases e : j = i
        · rw [e, Hkv.out]; omega
        · exact HK.out j (by omega)
      clear H2 H3 HK HS HOk Hkv
      go_wp2
      exact ⟨⟨i + 1, by omega, by simp, by first | rfl | trivial, HK2⟩, by simp [intOf]; omega⟩
    have hlt' : ¬ (i : Int) < (n : Int) := by omega
    have HKs : Hid (Kinds bs) := fun x hx => by
      obtain ⟨j, hj, rfl⟩ := List.getElem_of_mem hx
      have h1 := HK.out j (by have := HS.out.len; omega)
      have h2 := (HS.out.byte j).1
      rw [List.getD_eq_getElem?_getD, List.getElem?_eq_getElem hj] at h1 h2
      exact ⟨h2, h1⟩
    clear H2 HK
    go_upto_region 8 with fail
    go_wp2_with (at_builtin; refine wpList_append_src rfl _ _ rfl a n c bs (by omega) (by omega) HS.out rfl rfl ?_; intro gk ck w2 hp2 hb2 hg2; have HP2 : Hid (Pre w2 gk 5 bs ∧ Below wr.heap.size wr w2 ∧ wr.heap.size ≤ gk) := ⟨hp2, hb2, hg2⟩; clear hp2 hb2 hg2)
    have R := H3.out w2.heap.size (w2.alloc (.cells #[.int .i64 W, .int .i64 D, .int .i64 T, .slice (some ⟨gk, 0, none⟩) n ck] 34)) HOk.out HKs.out ⟨gk, ck, heap_alloc_new _ _, HP2.out.1.below ((Below.refl _ _).alloc (Nat.le_refl _) _) HP2.out.1.lt, HP2.out.2.2, HP2.out.2.1.size⟩ (HP2.out.2.1.alloc HP2.out.2.1.size _)
    clear H3 HP2 HKs HOk HS
    first | exact R | (go_ret2; exact R)
/-- What Set answers of a field with cells bs; R: the world behind a cell that is set. -/
def SetAs (n : Nat) (i k : Int) (w : World) (R : Nat → World → Prop) (e : Ending) (w' : World) : Prop :=
  (¬ (0 ≤ i ∧ i < (n : Int)) ∧ e = .returned (.int .i64 1) ∧ w' = w) ∨
  ((0 ≤ i ∧ i < (n : Int)) ∧ ¬ (0 ≤ k ∧ k ≤ 16) ∧ e = .returned (.int .i64 10) ∧ w' = w) ∨
  (∃ I : Nat, i = (I : Int) ∧ I < n ∧ (0 ≤ k ∧ k ≤ 16) ∧ e = .returned (.int .i64 0) ∧ R I w')
set_option maxHeartbeats 2000000 in
theorem rset_c (g kb n cap : Nat) (W D T i k : Int) (bs : List Int) (w : World) (hF : Fd w g W D T (.slice (some ⟨kb, 0, none⟩) n cap)) (hK : Pre w kb 5 bs) (hl : bs.length = n) :
    Calls Tryd.prog 15 #[.pointer (some ⟨g, 0, none⟩), .int .i64 i, .int .i64 k] w (SetAs n i k w fun I w' => w' = w.setCell ⟨kb, I, none⟩ (.int .u8 k)) := by
  obtain ⟨Post, hPost⟩ : ∃ Post, (SetAs n i k w fun I w' => w' = w.setCell ⟨kb, I, none⟩ (.int .u8 k)) = Post := ⟨_, rfl⟩
  rw [hPost]
  have H1 : Hid (¬ (0 ≤ i ∧ i < (n : Int)) → Post (.returned (.int .i64 1)) w) := fun h => by rw [← hPost]; exact .inl ⟨h, rfl, rfl⟩
  have H2 : Hid ((0 ≤ i ∧ i < (n : Int)) → ¬ (0 ≤ k ∧ k ≤ 16) → Post (.returned (.int .i64 10)) w) := fun h q => by rw [← hPost]; exact .inr (.inl ⟨h, q, rfl, rfl⟩)
  have H3 : Hid (∀ I : Nat, i = (I : Int) → I < n → (0 ≤ k ∧ k ≤ 16) → Post (.returned (.int .i64 0)) (w.setCell ⟨kb, I, none⟩ (.int .u8 k))) := fun I h1 h2 h3 => by rw [← hPost]; exact .inr (.inr ⟨I, h1, h2, h3, rfl, rfl⟩)
  have c3 := hF.c3
  have HK : Hid (Pre w kb 5 bs ∧ bs.length = n) := ⟨hK, hl⟩
  clear hPost hF hK hl
  go_enter Tryd.func15, Tryd.ntmps15
  by_cases i0 : 0 ≤ i
  case neg =>
    have R := H1.out (fun h => i0 h.1)
    clear H1 H2 H3 HK
    go_wp2
    first | exact R | (go_ret; exact R)
  by_cases i1 : i < (n : Int)
  case neg =>
    have R := H1.out (fun h => i1 h.2)
    clear H1 H2 H3 HK
    go_wp2
    first | exact R | (go_ret; exact R)
  by_cases k0 : 0 ≤ k
  case neg =>
    have R := H2.out ⟨i0, i1⟩ (fun h => k0 h.1)
    clear H1 H2 H3 HK
    go_wp2
    first | exact R | (go_ret; exact R)
  by_cases k1 : k ≤ 16
  case neg =>
    have R := H2.out ⟨i0, i1⟩ (fun h => k1 h.2)
    clear H1 H2 H3 HK
    go_wp2
    first | exact R | (go_ret; exact R)
  obtain ⟨I, rfl⟩ := Int.eq_ofNat_of_zero_le i0
  have R := H3.out I rfl (by omega) ⟨k0, k1⟩
  have ck := HK.out.1.cell (k := I) (by rw [HK.out.2]; omega)
  have fk := HK.out.1.free I
  have wk : IntKind.u8.wrap k = k := by rw [IntKind.wrap_u8]; omega
  clear H1 H2 H3 HK
  go_wp2
  first | exact R | (go_ret; exact R)
end Go.Proofs.YtmfjmcaaoljjlaaDoor
