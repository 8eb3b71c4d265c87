/-
  The landed asked: what each cell's kind answers.
-/
import Derived.Test.YtjeapaojbkicmabDoorQfld
set_option maxRecDepth 20000
namespace Go.Proofs.YtjeapaojbkicmabDoor
open C Go.RowKit L

/-- A list by halves. -/
def hlv (v : Value) : Nat → Nat → List Value
  | 0, n => List.replicate n v
  | f + 1, n => (hlv v f (n / 2)).append (hlv v f (n - n / 2))
theorem hlv_rep (v : Value) : ∀ f n, hlv v f n = List.replicate n v
  | 0, _ => rfl
  | f + 1, n => by
    show hlv v f (n / 2) ++ hlv v f (n - n / 2) = _
    rw [hlv_rep v f, hlv_rep v f, List.replicate_append_replicate]
    congr 1
    omega
theorem zfield : Tryd.t54.zero = some (.agg (hlv (.int .u8 0) 13 325000).toArray) := by kernel_rfl
theorem zero_field (w : World) : (zeroValue 54).run Tryd.prog w = .ok (.agg (vals (List.replicate 325000 0))) w := by
  have e : (hlv (.int .u8 0) 13 325000).toArray = vals (List.replicate 325000 0) := by
    rw [hlv_rep, vals, List.map_replicate]
  unfold zeroValue
  rw [Sem.run_bind, Tryd.typeInfo54, Result.andThen_ok, zfield, e]
  rfl
theorem ent_q (q : Nat) (hq : q = 16 ∨ q = 19) (X : Value) (w : World) : (callFunc q #[X]).run Tryd.prog w = .ok (.enter q #[X]) w := by
  rcases hq with rfl | rfl
  · kernel_rfl
  · kernel_rfl
/-- The answers of the first K kinds. -/
structure AskA (W0 : World) (gA : Nat) (f : Nat → Nat) (K : Nat) (W : World) : Prop where
  blk : ∃ rs, Blk W gA 64 rs ∧ rs.length = 17 ∧ ∀ k, k < K → rs.getD k 0 = (f k : Int)
  bel : Below W0.heap.size W0 W
/-- The first p cells. -/
structure AskF (W0 : World) (gA gT : Nat) (ks : List Int) (f : Nat → Nat) (p : Nat) (W : World) : Prop where
  ans : ∃ rs, Blk W gA 64 rs ∧ rs.length = 17 ∧ ∀ k, k < 17 → rs.getD k 0 = (f k : Int)
  blk : ∃ ts, Blk W gT 54 ts ∧ ts.length = 325000 ∧ ∀ i, i < p → ts.getD i 0 = (f (ks.getD i 0).toNat : Int)
  bel : Below W0.heap.size W0 W
theorem AskF.next {W0 W : World} {gA gT p : Nat} {ks : List Int} {f : Nat → Nat} (h : AskF W0 gA gT ks f p W) (hp : p < 325000) (hne : gA ≠ gT) (hlo : W0.heap.size ≤ gT) : AskF W0 gA gT ks f (p + 1) (W.setCell ⟨gT, p, none⟩ (.int .u8 (f (ks.getD p 0).toNat : Int))) := by
  obtain ⟨⟨rs, h1, h2, h3⟩, ⟨ts, h4, h5, h6⟩, h7⟩ := h
  refine ⟨⟨rs, h1.other hne, h2, h3⟩, ⟨_, h4.set p _, by rw [List.length_set]; exact h5, fun i hi => ?_⟩, ?_⟩
  · by_cases q : i = p
    · subst q; rw [C.getD_set_self ts i _ (by omega)]
    · rw [C.getD_set_ne ts _ (fun e => q e.symm)]; exact h6 i (by omega)
  · exact h7.trans ⟨rfl, rfl, rfl, by simp [World.setCell], fun j hj => Below.heap_setCell W ⟨gT, p, none⟩ _ j (by show j ≠ gT; omega)⟩
set_option maxRecDepth 1000000 in
set_option maxHeartbeats 4000000 in
theorem asked_c (q : Nat) (hq : q = 16 ∨ q = 19) (f : Nat → Nat) (hfb : ∀ k, k < 17 → f k < 256) (hf : ∀ K : Nat, K < 17 → ∀ W, Tabs W → Calls Tryd.prog q #[.int .i64 (K : Int)] W fun e w' => e = .returned (.int .i64 (f K : Int)) ∧ Below W.heap.size W w') (gk : Nat) (ks : List Int) (w : World) (hT : Tabs w) (hB : Blk w gk 54 ks) (hl : ks.length = 325000) (hk : Kinds ks) :
    Calls Tryd.prog 15 #[.pointer (some ⟨gk, 0, none⟩), .func (.func q) #[] #[]] w fun e w' => ∃ gA gT, e = .returned (.pointer (some ⟨gT, 0, none⟩)) ∧ w.heap.size ≤ gT ∧ AskF w gA gT ks f 325000 w' := by
  obtain ⟨Post, hPost⟩ : ∃ Post : Ending → World → Prop, Post = fun e w' => ∃ gA gT, e = .returned (.pointer (some ⟨gT, 0, none⟩)) ∧ w.heap.size ≤ gT ∧ AskF w gA gT ks f 325000 w' := ⟨_, rfl⟩
  rw [← hPost]
  have HP : Hid (∀ gA gT w', w.heap.size ≤ gT → AskF w gA gT ks f 325000 w' → Post (.returned (.pointer (some ⟨gT, 0, none⟩))) w') := fun gA gT w' h1 h2 => by rw [hPost]; exact ⟨_, _, rfl, h1, h2⟩
  clear hPost
  have hb0 : Below w.heap.size w (w.alloc (.cells (vals (List.replicate 17 (0 : Int))) 64)) := (Below.refl _ _).alloc (Nat.le_refl _) _
  have H0 : Hid (AskA w w.heap.size f 0 (w.alloc (.cells (vals (List.replicate 17 (0 : Int))) 64))) := ⟨⟨_, Blk.new w 64 _, by simp, fun k hk => absurd hk (Nat.not_lt_zero _)⟩, hb0⟩
  have e17 : vals (List.replicate 17 (0 : Int)) = #[.int .u8 0, .int .u8 0, .int .u8 0, .int .u8 0, .int .u8 0, .int .u8 0, .int .u8 0, .int .u8 0, .int .u8 0, .int .u8 0, .int .u8 0, .int .u8 0, .int .u8 0, .int .u8 0, .int .u8 0, .int .u8 0, .int .u8 0] := by rfl
  rw [e17] at H0
  have HF : Hid (∀ K : Nat, K < 17 → f K < 256 ∧ ∀ W, Tabs W → Calls Tryd.prog q #[.int .i64 (K : Int)] W fun e w' => e = .returned (.int .i64 (f K : Int)) ∧ Below W.heap.size W w') := fun K hK => ⟨hfb K hK, hf K hK⟩
  have HK : Hid (Blk w gk 54 ks ∧ ks.length = 325000 ∧ Kinds ks ∧ Tabs w) := ⟨hB, hl, hk, hT⟩
  have Hq : Hid (q = 16 ∨ q = 19) := hq
  have hzf := zero_field
  obtain ⟨Z, hZe⟩ : ∃ Z, Z = List.replicate 325000 (0 : Int) := ⟨_, rfl⟩
  have HZ : Hid (Z.length = 325000) := by show Z.length = 325000; rw [hZe, List.length_replicate]
  rw [← hZe] at hzf
  clear hfb hf hT hB hl hk hb0 e17 hq hZe
  obtain ⟨gA, hgA⟩ : ∃ gA, w.heap.size = gA := ⟨_, rfl⟩
  have HgA : Hid (w.heap.size = gA) := hgA
  rw [hgA] at H0
  go_enter Tryd.func15, Tryd.ntmps15
  go_wp2
  clear hgA
  go_loopw [10] (fun vx wr => ∃ K : Nat, K ≤ 17 ∧ vx = .int .i64 (K : Int) ∧ Hid (AskA w gA f K wr)) (fun vx _ => 17 - (intOf vx).toNat)
  case atStart => exact ⟨0, by omega, rfl, H0⟩
  case round =>
    clear H0
    obtain ⟨K, hK, rfl, HS⟩ := hrel
    by_cases hlt : K < 17
    case pos =>
      have hlt' : (K : Int) < 17 := by omega
      have wK : IntKind.i64.wrap ((K : Int) + 1) = ((K + 1 : Nat) : Int) := by rw [IntKind.wrap_i64]; omega
      have hT : Tabs wr := HK.out.2.2.2.on HS.out.bel
      have hcal := (HF.out K hlt).2 wr hT
      have hb := (HF.out K hlt).1
      have wf : IntKind.u8.wrap (f K : Int) = (f K : Int) := by rw [IntKind.wrap_u8]; omega
      have hen := ent_q q Hq.out (.int .i64 (K : Int)) wr
      clear hT HP HK HZ
      have Hlt : Hid (K < 17 ∧ w.heap.size = gA) := ⟨hlt, HgA.out⟩
      obtain ⟨F, hF⟩ : ∃ F, f K = F := ⟨_, rfl⟩
      have HFK : Hid (f K = F) := hF
      rw [hF] at hcal wf hb
      clear hF hb hlt
      go_wp2_with fail
      refine hcal.mono ?_
      clear hcal hen
      rintro _ w2 ⟨rfl, hb2⟩
      have HS2 : Hid (AskA w gA f K w2) := by
        obtain ⟨⟨rs, h1, h2, h3⟩, h4⟩ := HS.out
        exact ⟨⟨rs, h1.below hb2 h1.lt, h2, h3⟩, h4.trans (hb2.mono h4.size)⟩
      clear HS hb2
      obtain ⟨⟨rs, h1, h2, h3⟩, h4⟩ := HS2.out
      have hc := h1.cell (k := K) (by have := Hlt.out.1; omega)
      have hfz := h1.free K
      have HE : Hid (AskA w gA f (K + 1) (w2.setCell ⟨gA, K, none⟩ (.int .u8 (F : Int)))) := by
        have hk := Hlt.out.1
        refine ⟨⟨_, h1.set K _, by rw [List.length_set]; exact h2, fun i hi => ?_⟩, ?_⟩
        · by_cases q : i = K
          · subst q; rw [C.getD_set_self rs i _ (by omega), HFK.out]
          · rw [C.getD_set_ne rs _ (fun e => q e.symm)]; exact h3 i (by omega)
        · exact h4.trans ⟨rfl, rfl, rfl, by simp [World.setCell], fun j hj => Below.heap_setCell w2 ⟨gA, K, none⟩ _ j (by show j ≠ gA; have := Hlt.out.2; omega)⟩
      generalize rs.getD K 0 = v0 at hc
      have hkl : (K : Int) < 17 := by have := Hlt.out.1; omega
      clear h1 h2 h3 h4 HS2 HFK HF Hlt Hq HgA
      go_wp2
      exact ⟨⟨K + 1, by omega, by simp, HE⟩, by simp [intOf]; omega⟩
    have hlt' : ¬ (K : Int) < 17 := by omega
    obtain ⟨gT, hgT⟩ : ∃ gT, wr.heap.size = gT := ⟨_, rfl⟩
    have H1 : Hid (AskF w gA gT ks f 0 (wr.alloc (.cells (vals Z) 54)) ∧ gA ≠ gT ∧ w.heap.size ≤ gT) := by
      obtain rfl : K = 17 := by omega
      obtain ⟨⟨rs, h1, h2, h3⟩, h4⟩ := HS.out
      have hb : Below wr.heap.size wr (wr.alloc (.cells (vals Z) 54)) := (Below.refl _ _).alloc (Nat.le_refl _) _
      have hn := Blk.new wr 54 Z
      rw [hgT] at hn
      exact ⟨⟨⟨rs, h1.below hb h1.lt, h2, h3⟩, ⟨Z, hn, HZ.out, fun i hi => absurd hi (Nat.not_lt_zero _)⟩, h4.trans (hb.mono h4.size)⟩, by have := h1.lt; omega, by have := h4.size; omega⟩
    clear HS HF HZ Hq HgA
    go_wp2
    clear hgT
    generalize wr.alloc (.cells (vals Z) 54) = w1 at *
    go_loopw [21] (fun vx wr => ∃ p : Nat, p ≤ 325000 ∧ vx = .int .i64 (p : Int) ∧ Hid (AskF w gA gT ks f p wr ∧ gA ≠ gT ∧ w.heap.size ≤ gT)) (fun vx _ => 325000 - (intOf vx).toNat)
    case atStart => exact ⟨0, by omega, rfl, H1⟩
    case round =>
      clear H1 hzf hlt hlt' hK
      obtain ⟨p, hp, rfl, HS⟩ := hrel
      by_cases hlt : p < 325000
      case neg =>
        have hlt' : ¬ (p : Int) < 325000 := by omega
        have R := HP.out gA gT wr HS.out.2.2 (by obtain rfl : p = 325000 := by omega
                                                 exact HS.out.1)
        clear HS HP HK
        go_wp2
        first | exact R | (go_ret; exact R)
      have hlt' : (p : Int) < 325000 := by omega
      have wp1 : IntKind.i64.wrap ((p : Int) + 1) = ((p + 1 : Nat) : Int) := by rw [IntKind.wrap_i64]; omega
      clear HP
      have cp : wr.cell? ⟨gk, p, none⟩ = some (.int .u8 (ks.getD p 0)) := (HK.out.1.below HS.out.1.bel HK.out.1.lt).cell (k := p) (by rw [HK.out.2.1]; exact hlt)
      have bp := HK.out.2.2.1.at p
      obtain ⟨k, hk⟩ := Int.eq_ofNat_of_zero_le bp.1
      have Hk : Hid (ks.getD p 0 = (k : Int)) := hk
      rw [hk] at cp bp
      have k17 : k < 17 := by omega
      have k17' : (k : Int) < 17 := by omega
      clear hk bp
      obtain ⟨⟨rs, h1, h2, h3⟩, ⟨ts, h4, h5, h6⟩, h7⟩ := HS.out.1
      have ca := h1.cell (k := k) (by omega)
      rw [h3 k k17] at ca
      have ct := h4.cell (k := p) (by omega)
      have fz := h4.free p
      obtain ⟨F, hF⟩ : ∃ F, f k = F := ⟨_, rfl⟩
      have HFK : Hid (f k = F) := hF
      rw [hF] at ca
      have HE0 : Hid (∀ nq, AskF w gA gT ks f (p + 1) ((wr.drewN nq).setCell ⟨gT, p, none⟩ (.int .u8 (F : Int))) ∧ gA ≠ gT ∧ w.heap.size ≤ gT) := fun nq => by
        have hd : Below wr.heap.size wr (wr.drewN nq) := below_drewN (Below.refl _ _) _
        have h8 : AskF w gA gT ks f p (wr.drewN nq) := ⟨⟨rs, h1.below hd h1.lt, h2, h3⟩, ⟨ts, h4.below hd h4.lt, h5, h6⟩, h7.trans (hd.mono h7.size)⟩
        have h9 := h8.next hlt HS.out.2.1 HS.out.2.2
        rw [Hk.out] at h9
        have e : ((k : Int)).toNat = k := by simp
        rw [e, HFK.out] at h9
        exact ⟨h9, HS.out.2⟩
      generalize ts.getD p 0 = v0 at ct
      clear h1 h2 h3 h4 h5 h6 h7 HS HK Hk HFK hF hlt
      go_wp2_with fail
      go_quiet (fail)
      have HE := HE0.out nq
      have HE1 : Hid _ := HE
      clear HE HE0
      go_wp2
      exact ⟨⟨p + 1, by omega, by simp, HE1⟩, by simp [intOf]; omega⟩
end Go.Proofs.YtjeapaojbkicmabDoor
