/-
  The landed Flood.
-/
import Derived.Test.YtjeapaojbkicmabDoorQlaid
import Derived.LoopN
set_option maxRecDepth 20000
namespace Go.Proofs.YtjeapaojbkicmabDoor
open C G Go.RowKit L

/-- Pointers in a row, some of them to nothing. -/
structure PtrsAt (w : World) (a : Option Addr) (ps : List (Option Nat)) : Prop where
  cells : ∀ i, i < ps.length → ∃ b o, a = some ⟨b, o, none⟩ ∧ w.cell? ⟨b, o + i, none⟩ = some (.pointer ((ps.getD i none).map fun g => ⟨g, 0, none⟩))
/-- Where the first one is that there is not. -/
def IdxSay (ps : List (Option Nat)) (w : World) (e : Ending) (w' : World) : Prop := ∃ v : Int, e = .returned (.int .i64 v) ∧ (-1 ≤ v ∧ v ≤ 100) ∧ (0 ≤ v ↔ none ∈ ps) ∧ w' = w
set_option maxHeartbeats 1000000 in
theorem idx_c (a : Option Addr) (n c : Nat) (ps : List (Option Nat)) (w : World) (hP : PtrsAt w a ps) (hl : ps.length = n) (hn : n ≤ 100) : Calls Tryd.prog 23 #[.slice a n c, .pointer none] w (IdxSay ps w) := by
  obtain ⟨Post, hPost⟩ : ∃ Post, Post = IdxSay ps w := ⟨_, rfl⟩
  rw [← hPost]
  have HP : Hid (∀ v : Int, (-1 ≤ v ∧ v ≤ 100) → (0 ≤ v ↔ none ∈ ps) → Post (.returned (.int .i64 v)) w) := fun v h1 h2 => by rw [hPost]; exact ⟨v, rfl, h1, h2, rfl⟩
  clear hPost
  have HX : Hid (PtrsAt w a ps ∧ ps.length = n) := ⟨hP, hl⟩
  clear hP hl
  go_enter Tryd.func23, Tryd.ntmps23
  go_wp2
  go_loop [8] (fun y => ∃ (I : Nat), y = .int .i64 (I : Int) ∧ I ≤ n ∧ Hid (∀ i, i < I → ps.getD i none ≠ none)) (fun y => n - (intOf y).toNat)
  case atStart => exact ⟨0, rfl, by omega, fun i hi => by omega⟩
  case round =>
    obtain ⟨I, rfl, hI, HI⟩ := hrel
    by_cases hlt : I < n
    · have hlt' : (I : Int) < (n : Int) := by omega
      obtain ⟨b, o, rfl, hc⟩ := HX.out.1.cells I (by have := HX.out.2; omega)
      rcases hv : ps.getD I none with _ | g
      · rw [hv] at hc
        have hc' : w.cell? ⟨b, o + I, none⟩ = some (.pointer none) := hc
        have hmem : none ∈ ps := by
          have hlen := HX.out.2
          rw [List.getD_eq_getElem?_getD, List.getElem?_eq_getElem (by omega)] at hv
          have : ps[I]'(by omega) = none := by simpa using hv
          exact this ▸ List.getElem_mem _
        have R := HP.out (I : Int) (by omega) ⟨fun _ => hmem, fun _ => by omega⟩
        clear HP hc hv hmem HI
        go_wp2
        exact R
      · rw [hv] at hc
        have hc' : w.cell? ⟨b, o + I, none⟩ = some (.pointer (some ⟨g, 0, none⟩)) := hc
        have HI2 : Hid (∀ i, i < I + 1 → ps.getD i none ≠ none) := fun i hi => by
          by_cases e : i = I
          · rw [e, hv]; simp
          · exact HI.out i (by omega)
        have he : (binOp .eql 39 (.pointer none) (.pointer (some ⟨g, 0, none⟩))).run Tryd.prog w = .ok (.bool false) w := by kernel_rfl
        clear hc hv HI
        go_wp2
        exact ⟨⟨I + 1, by simp, by omega, HI2⟩, by simp [intOf]; omega⟩
    · have hge : ¬ (I : Int) < (n : Int) := by omega
      have hno : ¬ none ∈ ps := fun hm => by
        obtain ⟨i, hi, e⟩ := List.getElem_of_mem hm
        refine HI.out i (by have := HX.out.2; omega) ?_
        rw [List.getD_eq_getElem?_getD, List.getElem?_eq_getElem hi, e]
        rfl
      have R := HP.out (-1) (by omega) ⟨fun h => by omega, fun h => absurd h hno⟩
      clear HP HI hno
      go_wp2
      exact R
theorem contains_c (a : Option Addr) (n c : Nat) (ps : List (Option Nat)) (β : Bool) (w : World) (hP : PtrsAt w a ps) (hl : ps.length = n) (hn : n ≤ 100) (hβ : β = true ↔ none ∈ ps) : Calls Tryd.prog 13 #[.slice a n c, .pointer none] w fun e w' => e = .returned (.bool β) ∧ w' = w := by
  have hi := idx_c a n c ps w hP hl hn
  go_enter Tryd.func13, Tryd.ntmps13
  go_wp2_with fail
  refine hi.mono ?_
  rintro _ w1 ⟨v, rfl, hb, hv, hw⟩
  replace hw := hw.symm
  subst hw
  clear hi hP hl
  rcases β with _ | _
  · have h0 : ¬ 0 ≤ v := fun h => by have := hβ.2 (hv.1 h); cases this
    clear hβ hv
    go_wp2
    go_ret
    exact ⟨C.ret_bool (decide_eq_false (by omega)), rfl⟩
  · have h0 : 0 ≤ v := hv.2 (hβ.1 rfl)
    clear hβ hv
    go_wp2
    go_ret
    exact ⟨rfl, rfl⟩

theorem nine_ptrs {w : World} {b : Nat} {gs : Nat → Nat} {css : List (List Int)} (h : N9 w b gs css) : PtrsAt w (some ⟨b, 0, none⟩) ((List.range 9).map fun i => some (gs i)) := by
  refine ⟨fun i hi => ⟨b, 0, rfl, ?_⟩⟩
  have hi' : i < 9 := by simpa using hi
  have e : ((List.range 9).map fun i => some (gs i)).getD i none = some (gs i) := by
    rw [List.getD_eq_getElem?_getD, List.getElem?_map, List.getElem?_range hi']
    rfl
  rw [e, Nat.zero_add]
  exact h.row i hi'
/-! ### what the fields are -/
def lossP (LS : List Int) (p : Nat) : Nat := if p < 325000 then (LS.getD p 0).toNat else 16
def srcP (ls : List Int) (p : Nat) : Nat := li ls p
theorem lossP_pos {LS : List Int} (h : ∀ i, i < 325000 → 1 ≤ LS.getD i 0 ∧ LS.getD i 0 ≤ 16) (p : Nat) : 1 ≤ lossP LS p := by
  unfold lossP
  by_cases q : p < 325000
  · rw [if_pos q]; have := h p q; omega
  · rw [if_neg q]; omega
/-- The losses are those of the kinds. -/
def LossOf (ks LS : List Int) : Prop := LS.length = 325000 ∧ ∀ p, p < 325000 → LS.getD p 0 = (lossF (ks.getD p 0) : Int)
theorem LossOf.bd {ks LS : List Int} (h : LossOf ks LS) : ∀ i, i < 325000 → 1 ≤ LS.getD i 0 ∧ LS.getD i 0 ≤ 16 := fun i hi => by
  rw [h.2 i hi]
  have := lossBd (ks.getD i 0)
  omega
theorem LossOf.inn {css : List (List Int)} {ks LS : List Int} (h : LossOf ks LS) (hf : FieldP css ks) {p : Nat} (hp : lossP LS p ≤ 15) : Inn p := by
  unfold lossP at hp
  by_cases q : p < 325000
  · rw [if_pos q, h.2 p q] at hp
    by_cases hi : Inn p
    · exact hi
    · rw [hf.rim p q hi] at hp
      have e : lossF 16 = 16 := by decide
      rw [e] at hp
      omega
  · rw [if_neg q] at hp; omega
/-- The system of a landed flood. -/
def sysP (LS ls : List Int) (hL : ∀ i, i < 325000 → 1 ≤ LS.getD i 0 ∧ LS.getD i 0 ≤ 16) (hl : Lv ls) : L.Sys := psys (li ls) (lossP LS) (fun i => by have := (hl i).2; unfold li; omega) (lossP_pos hL)
theorem sysP_o {css : List (List Int)} {ks LS ls : List Int} {w : World} {gf gL gl : Nat} (hf : FieldP css ks) (hO : LossOf ks LS) (hl : Lv ls) (hsrc : ∀ i, 0 < li ls i → Inn i) (hne : gl ≠ gL) (hlt : gl < w.heap.size) (hT : Tabs w) (h2 : 2 ≤ gl) : SqO ⟨gf, gL, gl, LS, w⟩ (sysP LS ls hO.bd hl) where
  sn := rfl
  pass i hi := by
    show decide (lossP LS i ≤ 15) = _
    unfold lossP
    rw [if_pos hi]
  loss i hi := by
    show lossP LS i = _
    unfold lossP
    rw [if_pos hi]
  adj i j := Iff.rfl
  inn i v h hv := lit_inn hsrc (fun _ hp => hO.inn hf hp) h hv
  kl := hO.1
  kk := hO.bd
  n1 := hne
  b0 := hlt
  t0 := hT
  two := h2
/-- The light that a landed flood leaves is that of the nine chunks. -/
theorem light_of {css : List (List Int)} {ks LS ls cs : List Int} {l : Nat → Nat} {S : Nat → Nat} {hS : ∀ i, S i ≤ 15} (hf : FieldP css ks) (hO : LossOf ks LS) (hl : Lv ls) (hT : L.Told (sysP LS ls hO.bd hl) l) (hs : ∀ i, i < 294912 → li ls (pad i) = S i) (hc : cs.length = 32768) (hcs : ∀ i, i < 32768 → cs.getD i 0 = (l (pad (mid i)) : Int)) :
    IsLight (fsys 48 48 128 (kAt css) S hS (by omega) (by omega)) cs := by
  refine ⟨hc, fun i => l (pad i), told_pad hs (fun i hi => ?_) hT, hcs⟩
  have hp := pad_inn hi
  have hlt : pad i < 325000 := by unfold Inn at hp; omega
  show lossP LS (pad i) = _
  unfold lossP
  rw [if_pos hlt, hO.2 _ hlt, hf.inn i hi]
  unfold lossF
  simp
theorem open_pad {css : List (List Int)} {ks : List Int} (hf : FieldP css ks) {i : Nat} (hi : i < 294912) : OpenP ks (pad i) ↔ openN 48 48 128 (kAt css) i = true := by
  have hp := pad_inn hi
  have hstep : ∀ t, i + t * 2304 < 294912 → pad (i + t * 2304) = pad i + 2500 * t := fun t ht => by
    unfold pad
    have h1 : (i + t * 2304) / 2304 = i / 2304 + t := by omega
    have h2 : (i + t * 2304) / 48 % 48 = i / 48 % 48 := by omega
    have h3 : (i + t * 2304) % 48 = i % 48 := by omega
    rw [h1, h2, h3]
    omega
  have hpi : pad i / 2500 = i / 2304 + 1 := by unfold pad; omega
  unfold OpenP openN
  constructor
  · rintro ⟨_, h⟩
    refine List.all_eq_true.2 fun t ht => ?_
    have ht := List.mem_range.1 ht
    have hlt : i + t * 2304 < 294912 := by omega
    have h1 := h t (by rw [← hstep t hlt]; have := pad_inn hlt; unfold Inn at this; omega)
    rw [← hstep t hlt, hf.inn _ hlt] at h1
    exact h1
  · intro h
    refine ⟨by unfold Inn at hp; omega, fun t ht => ?_⟩
    have h2 : t < 128 - i / 48 / 48 := by
      have h3 : i / 48 / 48 = i / 2304 := by omega
      rw [h3]
      unfold Inn at hp
      omega
    have hlt : i + t * 2304 < 294912 := by omega
    have h1 := List.all_eq_true.1 h t (List.mem_range.2 h2)
    rw [← hstep t hlt, hf.inn _ hlt]
    exact h1
/-- The sky's sources. -/
theorem sky_srcs {css : List (List Int)} {ks ts : List Int} (hf : FieldP css ks) (h : SkyO ks 2500 ts) : Lv ts ∧ (∀ i, 0 < li ts i → Inn i) ∧ ∀ i, i < 294912 → li ts (pad i) = skyN 48 48 128 (kAt css) i := by
  have hout : ∀ p, 325000 ≤ p → ts.getD p 0 = 0 := fun p hp => by rw [List.getD_eq_getElem?_getD, List.getElem?_eq_none (by rw [h.len]; exact hp)]; rfl
  have ht : ∀ p, p < 325000 → SkyT ks ts p := fun p hp => h.told p hp (by omega)
  refine ⟨fun p => ?_, fun p hp => ?_, fun i hi => ?_⟩
  · rcases Nat.lt_or_ge p 325000 with hp | hp
    · rcases ht p hp with ⟨e, _⟩ | ⟨e, _⟩ <;> rw [e] <;> omega
    · rw [hout p hp]; omega
  · rcases Nat.lt_or_ge p 325000 with hp1 | hp1
    · rcases ht p hp1 with ⟨_, ho⟩ | ⟨e, _⟩
      · by_cases hi : Inn p
        · exact hi
        · have h1 := ho.2 0 (by have := ho.1; omega)
          rw [Nat.mul_zero, Nat.add_zero, hf.rim p hp1 hi] at h1
          cases h1
      · unfold li at hp; rw [e] at hp; simp at hp
    · unfold li at hp; rw [hout p hp1] at hp; simp at hp
  · have hpi := pad_inn hi
    have hlt : pad i < 325000 := by unfold Inn at hpi; omega
    unfold skyN li
    rcases ht _ hlt with ⟨e, ho⟩ | ⟨e, ho⟩
    · rw [e, if_pos ⟨by omega, (open_pad hf hi).1 ho⟩]; rfl
    · rw [e, if_neg (fun h2 => ho ((open_pad hf hi).2 h2.2))]; rfl
/-- The lamps' sources. -/
theorem lamp_srcs {css : List (List Int)} {ks ts : List Int} (hf : FieldP css ks) (hl : ts.length = 325000) (h : ∀ i, i < 325000 → ts.getD i 0 = (emitsK (ks.getD i 0) : Int)) : Lv ts ∧ (∀ i, 0 < li ts i → Inn i) ∧ ∀ i, i < 294912 → li ts (pad i) = lampN 48 48 128 (kAt css) i := by
  have hout : ∀ p, 325000 ≤ p → ts.getD p 0 = 0 := fun p hp => by rw [List.getD_eq_getElem?_getD, List.getElem?_eq_none (by rw [hl]; exact hp)]; rfl
  refine ⟨fun p => ?_, fun p hp => ?_, fun i hi => ?_⟩
  · rcases Nat.lt_or_ge p 325000 with hp | hp
    · rw [h p hp]; have := emits_le (ks.getD p 0); omega
    · rw [hout p hp]; omega
  · rcases Nat.lt_or_ge p 325000 with hp1 | hp1
    · by_cases hi : Inn p
      · exact hi
      · unfold li at hp
        rw [h p hp1, hf.rim p hp1 hi] at hp
        have e : emitsK 16 = 0 := by decide
        rw [e] at hp
        simp at hp
    · unfold li at hp; rw [hout p hp1] at hp; simp at hp
  · have hpi := pad_inn hi
    have hlt : pad i < 325000 := by unfold Inn at hpi; omega
    unfold lampN li
    rw [h _ hlt, hf.inn i hi, if_pos (by omega)]
    simp
/-- What Flood gives. -/
structure FloodG (w : World) (css : List (List Int)) (a b : Nat) (w' : World) : Prop where
  sky : ∃ ra, Blk w' a 5 ra ∧ IsLight (skyC css) ra
  lamp : ∃ rb, Blk w' b 5 rb ∧ IsLight (lampC css) rb
  low : w.heap.size ≤ a ∧ w.heap.size ≤ b
  bel : Below w.heap.size w w'
set_option maxHeartbeats 2000000 in
/-- Other than nine chunks, or one that there is not. -/
theorem flood_no (a : Option Addr) (n c : Nat) (ps : List (Option Nat)) (w : World) (hP : PtrsAt w a ps) (hl : ps.length = n) (hn : n ≤ 100) (hno : n ≠ 9 ∨ none ∈ ps) :
    Calls Tryd.prog 7 #[.slice a n c] w fun e w' => e = .returned (.tuple #[.slice none 0 0, .slice none 0 0, .int .i64 1]) ∧ Below w.heap.size w w' := by
  by_cases h9 : n = 9
  · have hc := contains_c a n c ps true w hP hl hn ⟨fun _ => hno.resolve_left (fun h => h h9), fun _ => rfl⟩
    subst h9
    clear hP hl hn hno
    go_enter Tryd.func7, Tryd.ntmps7
    go_wp2_with fail
    refine hc.mono ?_
    clear hc
    rintro _ w1 ⟨rfl, hw⟩
    subst hw
    go_wp2
    exact bodyPost_ret (results_tmp3 (t := 2) (u := 3) (v := 4) rfl _ _ _) rfl ⟨rfl, Below.refl _ _⟩
  · have h9' : ¬ (n : Int) = 9 := by omega
    have h9b : ((n : Int) == 9) = false := by simpa using h9'
    clear hP hl hn hno h9
    go_enter Tryd.func7, Tryd.ntmps7
    go_wp2
    exact bodyPost_ret (results_tmp3 (t := 2) (u := 3) (v := 4) rfl _ _ _) rfl ⟨rfl, Below.refl _ _⟩
theorem loss_of {css : List (List Int)} {ks : List Int} {W0 W : World} {gA gT : Nat} (hf : FieldP css ks) (h : AskF W0 gA gT ks (fun K => lossF (K : Int)) 325000 W) : ∃ LS, Blk W gT 54 LS ∧ LossOf ks LS := by
  obtain ⟨ts, h1, h2, h3⟩ := h.blk
  refine ⟨ts, h1, h2, fun p hp => ?_⟩
  rw [h3 p hp, Int.toNat_of_nonneg (hf.kk.at p).1]
theorem lamp_of {css : List (List Int)} {ks : List Int} {W0 W : World} {gA gT : Nat} (hf : FieldP css ks) (h : AskF W0 gA gT ks (fun K => emitsK (K : Int)) 325000 W) : ∃ ts, Blk W gT 54 ts ∧ ts.length = 325000 ∧ ∀ i, i < 325000 → ts.getD i 0 = (emitsK (ks.getD i 0) : Int) := by
  obtain ⟨ts, h1, h2, h3⟩ := h.blk
  refine ⟨ts, h1, h2, fun p hp => ?_⟩
  rw [h3 p hp, Int.toNat_of_nonneg (hf.kk.at p).1]
set_option maxHeartbeats 2000000 in
theorem emits_c (K : Nat) (hK : K < 17) (w : World) (T : Tabs w) : Calls Tryd.prog 19 #[.int .i64 (K : Int)] w fun x w' => x = .returned (.int .i64 (emitsK (K : Int) : Int)) ∧ Below w.heap.size w w' := by
  have h := kind_shines K hK w T
  rw [em_is K hK] at h
  exact h
set_option maxRecDepth 100000 in
set_option maxHeartbeats 4000000 in
theorem flood_c (b cv : Nat) (gs : Nat → Nat) (css : List (List Int)) (w : World) (hN : N9 w b gs css) (hT : Tabs w) :
    Calls Tryd.prog 7 #[.slice (some ⟨b, 0, none⟩) 9 cv] w fun e w' => ∃ x y, e = .returned (.tuple #[.slice (some ⟨x, 0, none⟩) 32768 32768, .slice (some ⟨y, 0, none⟩) 32768 32768, .int .i64 0]) ∧ FloodG w css x y w' := by
  obtain ⟨Post, hPost⟩ : ∃ Post : Ending → World → Prop, Post = fun e w' => ∃ x y, e = .returned (.tuple #[.slice (some ⟨x, 0, none⟩) 32768 32768, .slice (some ⟨y, 0, none⟩) 32768 32768, .int .i64 0]) ∧ FloodG w css x y w' := ⟨_, rfl⟩
  rw [← hPost]
  have HP : Hid (∀ x y w', FloodG w css x y w' → Post (.returned (.tuple #[.slice (some ⟨x, 0, none⟩) 32768 32768, .slice (some ⟨y, 0, none⟩) 32768 32768, .int .i64 0])) w') := fun x y w' h => by rw [hPost]; exact ⟨x, y, rfl, h⟩
  clear hPost
  have hc := contains_c (some ⟨b, 0, none⟩) 9 cv _ false w (nine_ptrs hN) (by simp) (by omega) ⟨fun h => (by cases h), fun h => by
    rw [List.mem_map] at h
    obtain ⟨i, _, e⟩ := h
    cases e⟩
  have HT : Hid (Tabs w) := hT
  have hl := laid_c b cv gs css w hN
  clear hN hT
  obtain ⟨gk, hgk⟩ : ∃ gk, w.heap.size = gk := ⟨_, rfl⟩
  have Hgk : Hid (w.heap.size = gk) := hgk
  rw [hgk] at hl
  clear hgk
  go_enter Tryd.func7, Tryd.ntmps7
  go_wp2_with fail
  refine hc.mono ?_
  clear hc
  rintro _ w0 ⟨rfl, hw⟩
  replace hw := hw.symm
  subst hw
  go_wp2_with fail
  refine hl.mono ?_
  clear hl
  rintro _ w1 ⟨rfl, hL⟩
  obtain ⟨ks, hk1, hf⟩ := hL.blk
  have HF : Hid (FieldP css ks) := hf
  have H1 : Hid (Blk w1 gk 54 ks ∧ Below w.heap.size w w1 ∧ Tabs w1) := ⟨hk1, hL.bel, HT.out.on hL.bel⟩
  have ha := asked_c 16 (.inl rfl) (fun K => lossF (K : Int)) (fun k _ => by have := lossBd (k : Int); omega) (fun K hK W hW => loss_c K hK W hW) gk ks w1 H1.out.2.2 hk1 hf.len hf.kk
  clear hL hk1 hf
  go_wp2_with fail
  refine ha.mono ?_
  clear ha
  rintro _ w2 ⟨gA, gL, rfl, hlo, hA⟩
  obtain ⟨LS, hLb, hLO⟩ := loss_of HF.out hA
  have HL : Hid (LossOf ks LS) := hLO
  have H2 : Hid (Blk w2 gk 54 ks ∧ Blk w2 gL 54 LS ∧ Below w.heap.size w w2 ∧ Tabs w2 ∧ gk < gL ∧ gk < w2.heap.size) := by
    obtain ⟨h1, h2, h3⟩ := H1.out
    have hb := hA.bel
    have hlt := h1.lt
    exact ⟨h1.below hb hlt, hLb, h2.trans (hb.mono h2.size), h3.on hb, by omega, Nat.lt_of_lt_of_le hlt hb.size⟩
  have hs := sky_c gk ks w2 H2.out.2.2.2.1 H2.out.1 HF.out.len HF.out.kk (fun p hp => HF.out.rim p (by omega) (fun hi => by unfold Inn at hi; omega))
  clear hA hlo hLb hLO H1
  obtain ⟨gS, hgS⟩ : ∃ gS, w2.heap.size = gS := ⟨_, rfl⟩
  have HgS : Hid (w2.heap.size = gS) := hgS
  rw [hgS] at hs
  clear hgS
  go_wp2_with fail
  refine hs.mono ?_
  clear hs
  rintro _ w3 ⟨rfl, hS⟩
  obtain ⟨⟨ts, hts, hsk⟩, hbS⟩ := hS
  obtain ⟨s1, s2, s3⟩ := sky_srcs HF.out hsk
  have H3 : Hid (Blk w3 gk 54 ks ∧ Blk w3 gL 54 LS ∧ Blk w3 gS 54 ts ∧ Below w.heap.size w w3 ∧ Tabs w3 ∧ gk < gS ∧ gL < gS ∧ w.heap.size ≤ gS ∧ 2 ≤ gS ∧ gL ≠ gk) := by
    obtain ⟨h1, h2, h3, h4, h5, h6⟩ := H2.out
    have hg := HgS.out
    have hlt := h2.lt
    have h22 := h4.two
    exact ⟨h1.below hbS h1.lt, h2.below hbS h2.lt, hts, h3.trans (hbS.mono h3.size), h4.on hbS, by omega, by omega, by have := h3.size; omega, by omega, by omega⟩
  have hsl : ts.length = 325000 := hsk.len
  have Hs : Hid ((∃ hv : Lv ts, ∀ i, i < 294912 → li ts (pad i) = skyN 48 48 128 (kAt css) i)) := ⟨s1, s3⟩
  have hfl := flooded_c ⟨w3.heap.size, gL, gS, LS, w3⟩ ts (sysP LS ts HL.out.bd s1) rfl (sysP_o HF.out HL.out s1 s2 (by have := H3.out.2.2.2.2.2.2.1; show gS ≠ gL; omega) H3.out.2.2.1.lt H3.out.2.2.2.2.1 H3.out.2.2.2.2.2.2.2.2.1) hsl s1 (fun i => rfl) H3.out.2.2.1 H3.out.2.1
  clear hsk hbS hts H2 HgS s2 s3 hsl
  go_wp2_with fail
  refine hfl.mono ?_
  clear hfl
  rintro _ w4 ⟨g1, rfl, hG⟩
  obtain ⟨cs1, l1, ht1, hr1, hc1, he1⟩ := hG.row
  have hI1 : IsLight (skyC css) cs1 := light_of HF.out HL.out s1 ht1 Hs.out.2 hc1 he1
  have H4 : Hid (Blk w4 gk 54 ks ∧ Blk w4 gL 54 LS ∧ Blk w4 g1 5 cs1 ∧ Below w.heap.size w w4 ∧ Tabs w4 ∧ w.heap.size ≤ g1 ∧ IsLight (skyC css) cs1) := by
    obtain ⟨h1, h2, h3, h4, h5, h6, h7, h8, h9, h10⟩ := H3.out
    have hg := hG.gr
    have hlow : w3.heap.size ≤ g1 := hG.low
    exact ⟨grown_blk hg (by show gk ≠ gS; omega) h1, grown_blk hg (by show gL ≠ gS; omega) h2, hr1, h4.grown hg h4.size (fun k hk => by injection hk; omega), h5.grown hg h9, by have := h4.size; omega, hI1⟩
  clear ht1 hr1 hc1 he1 hI1 hG Hs H3 s1
  have ha2 := asked_c 19 (.inr rfl) (fun K => emitsK (K : Int)) (fun k _ => by have := emits_le (k : Int); omega) (fun K hK W hW => emits_c K hK W hW) gk ks w4 H4.out.2.2.2.2.1 H4.out.1 HF.out.len HF.out.kk
  go_wp2_with fail
  refine ha2.mono ?_
  clear ha2
  rintro _ w5 ⟨gA2, gE, rfl, hlo, hA⟩
  obtain ⟨es, hEb, hel, hes⟩ := lamp_of HF.out hA
  obtain ⟨s1, s2, s3⟩ := lamp_srcs HF.out hel hes
  have H5 : Hid (Blk w5 gL 54 LS ∧ Blk w5 gE 54 es ∧ Blk w5 g1 5 cs1 ∧ Below w.heap.size w w5 ∧ Tabs w5 ∧ gL < gE ∧ g1 < gE ∧ w.heap.size ≤ gE ∧ 2 ≤ gE ∧ w.heap.size ≤ g1 ∧ IsLight (skyC css) cs1) := by
    obtain ⟨h1, h2, h3, h4, h5, h6, h7⟩ := H4.out
    have hb := hA.bel
    have l2 := h2.lt
    have l3 := h3.lt
    have h52 := h5.two
    exact ⟨h2.below hb l2, hEb, h3.below hb l3, h4.trans (hb.mono h4.size), h5.on hb, by omega, by omega, by have := h4.size; omega, by omega, h6, h7⟩
  have Hs : Hid (∃ hv : Lv es, ∀ i, i < 294912 → li es (pad i) = lampN 48 48 128 (kAt css) i) := ⟨s1, s3⟩
  have hfl := flooded_c ⟨w5.heap.size, gL, gE, LS, w5⟩ es (sysP LS es HL.out.bd s1) rfl (sysP_o HF.out HL.out s1 s2 (by have := H5.out.2.2.2.2.2.1; show gE ≠ gL; omega) H5.out.2.1.lt H5.out.2.2.2.2.1 H5.out.2.2.2.2.2.2.2.2.1) hel s1 (fun i => rfl) H5.out.2.1 H5.out.1
  clear hes hel hEb hA hlo H4 s2 s3
  go_wp2_with fail
  refine hfl.mono ?_
  clear hfl
  rintro _ w6 ⟨g2, rfl, hG⟩
  obtain ⟨cs2, l2, ht2, hr2, hc2, he2⟩ := hG.row
  have hI2 : IsLight (lampC css) cs2 := light_of HF.out HL.out s1 ht2 Hs.out.2 hc2 he2
  have R := HP.out g1 g2 w6 (by
    obtain ⟨h1, h2, h3, h4, h5, h6, h7, h8, h9, h10, h11⟩ := H5.out
    have hg := hG.gr
    have hlow : w5.heap.size ≤ g2 := hG.low
    refine ⟨⟨cs1, grown_blk hg (by show g1 ≠ gE; omega) h3, h11⟩, ⟨cs2, hr2, hI2⟩, ⟨h10, by have := h4.size; omega⟩, h4.grown hg h4.size (fun k hk => ?_)⟩
    have e : gE = k := by injection hk
    omega)
  clear ht2 hr2 hc2 he2 hI2 hG Hs H5 s1 HP HL HF HT Hgk
  go_wp2
  first | exact bodyPost_ret (results_tmp3 (t := 2) (u := 3) (v := 4) rfl _ _ _) rfl R | exact R
end Go.Proofs.YtjeapaojbkicmabDoor
