/-
  The laws' example: three cells.
-/
import Derived.Test.YtmfjmcaaoljjlaaDoorMtells
import Derived.Handy
set_option maxRecDepth 20000
namespace Go.Proofs.YtmfjmcaaoljjlaaDoor
open C Go.RowKit L

theorem lv3 (a b c : Int) (ha : 0 ≤ a ∧ a ≤ 15) (hb : 0 ≤ b ∧ b ≤ 15) (hc : 0 ≤ c ∧ c ≤ 15) : Lv [a, b, c] := fun i => by
  match i with
  | 0 => exact ha
  | 1 => exact hb
  | 2 => exact hc
  | i + 3 => exact ⟨by simp, by simp⟩
theorem told3 (s : L.Sys) (l : Nat → Nat) (hn : s.n = 3) (adj : ∀ i j, s.adj i j ↔ (i < 3 ∧ ∃ w, w < 6 ∧ nbr 3 1 1 i w = some j)) (h1 : ∀ i, i < 3 → L.Lit s i (l i)) (h2 : ∀ i, i < 3 → s.src i ≤ l i) (h0 : ∀ i, 3 ≤ i → s.src i = 0)
    (h3 : s.pass 0 = true → l 1 - s.loss 0 ≤ l 0) (h4 : s.pass 1 = true → l 0 - s.loss 1 ≤ l 1 ∧ l 2 - s.loss 1 ≤ l 1) (h5 : s.pass 2 = true → l 1 - s.loss 2 ≤ l 2) : L.Told s l := by
  refine told_of (fun i hi => h1 i (by omega)) (fun i => ?_) (fun j i ha hp => ?_)
  · rcases Nat.lt_or_ge i 3 with h | h
    · exact h2 i h
    · rw [h0 i h]; exact Nat.zero_le _
  · obtain ⟨hj, w, hw, hnb⟩ := (adj j i).1 ha
    have key : ∀ (j : Fin 3) (w : Fin 6) (i : Fin 3), L.nbr 3 1 1 j.1 w.1 = some i.1 → (j.1 = 1 ∧ i.1 = 0) ∨ (j.1 = 0 ∧ i.1 = 1) ∨ (j.1 = 2 ∧ i.1 = 1) ∨ (j.1 = 1 ∧ i.1 = 2) := by decide
    have hi : i < 3 := nbr_lt (W := 3) (D := 1) (T := 1) (by decide) (by decide) hj hnb
    rcases key ⟨j, hj⟩ ⟨w, hw⟩ ⟨i, hi⟩ hnb with ⟨rfl, rfl⟩ | ⟨rfl, rfl⟩ | ⟨rfl, rfl⟩ | ⟨rfl, rfl⟩
    · exact h3 hp
    · exact (h4 hp).1
    · exact (h4 hp).2
    · exact h5 hp
theorem li3 (a b c : Nat) : li [(a : Int), (b : Int), (c : Int)] 0 = a ∧ li [(a : Int), (b : Int), (c : Int)] 1 = b ∧ li [(a : Int), (b : Int), (c : Int)] 2 = c := ⟨rfl, rfl, rfl⟩
abbrev lampEx (bs : List Int) : L.Sys := L.lampS 3 1 1 (fun j => bs.getD j 0) (by decide) (by decide)
abbrev skyEx (bs : List Int) : L.Sys := L.skyS 3 1 1 (fun j => bs.getD j 0) (by decide) (by decide)
theorem lamp_out (bs : List Int) (i : Nat) (hi : 3 ≤ i) : (lampEx bs).src i = 0 := by
  have e : (lampEx bs).src i = lampN 3 1 1 (fun j => bs.getD j 0) i := rfl
  rw [e]
  unfold lampN
  rw [if_neg (by omega)]
theorem sky_out (bs : List Int) (i : Nat) (hi : 3 ≤ i) : (skyEx bs).src i = 0 := by
  have e : (skyEx bs).src i = skyN 3 1 1 (fun j => bs.getD j 0) i := rfl
  rw [e]
  unfold skyN
  rw [if_neg (fun q => by have := q.1; omega)]
theorem ex1 : LightOf (lampEx [0, 13, 0]) 3 [13, 14, 13] := by
  have o1 : L.Lit (lampEx [0, 13, 0]) 1 14 := .own (by decide)
  refine ⟨rfl, lv3 _ _ _ (by omega) (by omega) (by omega), told3 _ _ rfl (fun _ _ => Iff.rfl) (fun i hi => ?_) ?_ (lamp_out _) (by decide) (by decide) (by decide)⟩
  · match i, hi with
    | 0, _ => exact .comes o1 ⟨by decide, 0, by decide, by decide⟩ (by decide) (by decide)
    | 1, _ => exact o1
    | 2, _ => exact .comes o1 ⟨by decide, 1, by decide, by decide⟩ (by decide) (by decide)
  · intro i hi
    match i, hi with
    | 0, _ => decide
    | 1, _ => decide
    | 2, _ => decide
theorem ex2 : LightOf (lampEx [1, 13, 0]) 3 [0, 14, 13] := by
  have o1 : L.Lit (lampEx [1, 13, 0]) 1 14 := .own (by decide)
  refine ⟨rfl, lv3 _ _ _ (by omega) (by omega) (by omega), told3 _ _ rfl (fun _ _ => Iff.rfl) (fun i hi => ?_) ?_ (lamp_out _) (by decide) (by decide) (by decide)⟩
  · match i, hi with
    | 0, _ => exact .own (by decide)
    | 1, _ => exact o1
    | 2, _ => exact .comes o1 ⟨by decide, 1, by decide, by decide⟩ (by decide) (by decide)
  · intro i hi
    match i, hi with
    | 0, _ => decide
    | 1, _ => decide
    | 2, _ => decide
theorem ex3 : LightOf (lampEx [1, 0, 0]) 3 [0, 0, 0] := by
  refine ⟨rfl, lv3 _ _ _ (by omega) (by omega) (by omega), told3 _ _ rfl (fun _ _ => Iff.rfl) (fun i hi => ?_) ?_ (lamp_out _) (by decide) (by decide) (by decide)⟩
  · match i, hi with
    | 0, _ => exact .own (by decide)
    | 1, _ => exact .own (by decide)
    | 2, _ => exact .own (by decide)
  · intro i hi
    match i, hi with
    | 0, _ => decide
    | 1, _ => decide
    | 2, _ => decide
theorem ex4 : LightOf (skyEx [1, 0, 0]) 3 [0, 15, 15] := by
  refine ⟨rfl, lv3 _ _ _ (by omega) (by omega) (by omega), told3 _ _ rfl (fun _ _ => Iff.rfl) (fun i hi => ?_) ?_ (sky_out _) (by decide) (by decide) (by decide)⟩
  · match i, hi with
    | 0, _ => exact .own (by decide)
    | 1, _ => exact .own (by decide)
    | 2, _ => exact .own (by decide)
  · intro i hi
    match i, hi with
    | 0, _ => decide
    | 1, _ => decide
    | 2, _ => decide
/-- The field of the example. -/
structure Aw (J : JSpec) (w0 : World) (bs : List Int) (p : Nat) (F : Nat → Prop) (w : World) : Prop where
  g : J.G w
  a : J.A 3 1 1 bs p F w
  b : Below w0.heap.size w0 w
  f : ∀ j, F j → w0.heap.size ≤ j
theorem Aw.step {J : JSpec} {w0 : World} {bs bs' : List Int} {p : Nat} {F F' : Nat → Prop} {w w' : World} (h : Aw J w0 bs p F w) (ha : J.A 3 1 1 bs' p F' w') (ho : OnlyF F w w') (hs : ∀ j, F' j → F j ∨ w.heap.size ≤ j) : Aw J w0 bs' p F' w' := by
  have hz := h.b.size
  exact ⟨J.gof h.g h.a ho, ha, ⟨ho.os.trans h.b.os, ho.tape.trans h.b.tape, ho.output.trans h.b.output, Nat.le_trans hz ho.size, fun j hj => (ho.block j (Nat.lt_of_lt_of_le hj hz) (fun q => by have := h.f j q; omega)).trans (h.b.block j hj)⟩, fun j hj => (hs j hj).elim (h.f j) (fun q => Nat.le_trans hz q)⟩
theorem bx3 : Bx 3 1 1 := ⟨by decide, by decide, by decide, by decide, by decide, by decide⟩
theorem kinds3 {a b c : Int} (ha : 0 ≤ a ∧ a ≤ 16) (hb : 0 ≤ b ∧ b ≤ 16) (hc : 0 ≤ c ∧ c ≤ 16) : Kinds [a, b, c] := by
  intro x hx
  simp only [List.mem_cons, List.not_mem_nil, or_false] at hx
  rcases hx with rfl | rfl | rfl
  · exact ha
  · exact hb
  · exact hc
theorem Aw.set {J : JSpec} {w0 : World} {bs : List Int} {p : Nat} {F : Nat → Prop} {w : World} (h : Aw J w0 bs p F w) (hk : Kinds bs) (hl : bs.length = 3) (i : Nat) (k : Int) (hi : i < 3) (hkk : 0 ≤ k ∧ k ≤ 16) : Calls Tryd.prog 14 #[.pointer (some ⟨p, 0, none⟩), .int .i64 (i : Int), .int .i64 k] w fun e w' => e = .returned (.int .i64 0) ∧ ∃ F', Aw J w0 (bs.set i k) p F' w' :=
  (J.set 3 1 1 bs p F (i : Int) k w bx3 h.g h.a hk hl).mono (by
    rintro e w' (⟨h1, _⟩ | ⟨_, h1, _⟩ | ⟨I, hI, _, _, he, F', ha, ho, hs⟩)
    · exact absurd ⟨by omega, by show (i : Int) < 3; omega⟩ h1
    · exact absurd hkk h1
    · obtain rfl : i = I := by omega
      exact ⟨he, F', h.step ha ho hs⟩)
theorem Aw.lamp {J : JSpec} {w0 : World} {bs : List Int} {p : Nat} {F : Nat → Prop} {w : World} (h : Aw J w0 bs p F w) (hk : Kinds bs) (hl : bs.length = 3) (ls : List Int) (hls : LightOf (lampEx bs) 3 ls) : Calls Tryd.prog 16 #[.pointer (some ⟨p, 0, none⟩)] w fun e w' => ∃ g c F', e = .returned (.slice (some ⟨g, 0, none⟩) 3 c) ∧ Pre w' g 5 ls ∧ Aw J w0 bs p F' w' :=
  (J.lamp 3 1 1 bs p F w bx3 h.g h.a hk hl).mono (by
    rintro e w' ⟨g, c, F', l, he, hp, hl', _, _, ha, ho, hs⟩
    have e1 : l = ls := hl'.same rfl hls
    exact ⟨g, c, F', he, by rw [← e1]; exact hp, h.step ha ho hs⟩)
theorem Aw.sky {J : JSpec} {w0 : World} {bs : List Int} {p : Nat} {F : Nat → Prop} {w : World} (h : Aw J w0 bs p F w) (hk : Kinds bs) (hl : bs.length = 3) (ls : List Int) (hls : LightOf (skyEx bs) 3 ls) : Calls Tryd.prog 12 #[.pointer (some ⟨p, 0, none⟩)] w fun e w' => ∃ g c F', e = .returned (.slice (some ⟨g, 0, none⟩) 3 c) ∧ Pre w' g 5 ls ∧ Aw J w0 bs p F' w' :=
  (J.sky 3 1 1 bs p F w bx3 h.g h.a hk hl).mono (by
    rintro e w' ⟨g, c, F', l, he, hp, hl', _, _, ha, ho, hs⟩
    have e1 : l = ls := hl'.same rfl hls
    exact ⟨g, c, F', he, by rw [← e1]; exact hp, h.step ha ho hs⟩)
theorem s1 : strOfNums [13, 14, 13] = ⟨#[13, 14, 13]⟩ := by kernel_rfl
theorem s2 : strOfNums [0, 14, 13] = ⟨#[0, 14, 13]⟩ := by kernel_rfl
theorem s3 : strOfNums [0, 0, 0] = ⟨#[0, 0, 0]⟩ := by kernel_rfl
theorem s4 : strOfNums [0, 15, 15] = ⟨#[0, 15, 15]⟩ := by kernel_rfl
set_option maxHeartbeats 4000000 in
theorem awake_c (J : JSpec) (w : World) (hG : J.G w) : Calls Tryd.prog 9 #[] w fun e w' => e = .returned (.bool true) ∧ J.G w' ∧ Below w.heap.size w w' := by
  obtain ⟨Post, hPost⟩ : ∃ Post : Ending → World → Prop, Post = fun e w' => e = .returned (.bool true) ∧ J.G w' ∧ Below w.heap.size w w' := ⟨_, rfl⟩
  rw [← hPost]
  have HP : Hid (∀ w', J.G w' → Below w.heap.size w w' → Post (.returned (.bool true)) w') := fun w' h1 h2 => by rw [hPost]; exact ⟨rfl, h1, h2⟩
  clear hPost
  have hb0 : Below w.heap.size w (w.alloc (.cells (vals [0, 0, 0]) 5)) := (Below.refl _ _).alloc (Nat.le_refl _) _
  have hblk : Blk (w.alloc (.cells (vals [0, 0, 0]) 5)) w.heap.size 5 [0, 0, 0] := Blk.new w 5 _
  have hk0 : Kinds [0, 0, 0] := kinds3 (by omega) (by omega) (by omega)
  have hnew := J.new 3 1 1 (some ⟨w.heap.size, 0, none⟩) 3 3 [0, 0, 0] (w.alloc (.cells (vals [0, 0, 0]) 5)) (J.gon hG hb0) (by omega) ((blk_pre hblk).src hk0)
  have HB0 : Hid (Below w.heap.size w (w.alloc (.cells (vals [0, 0, 0]) 5)) ∧ J.G (w.alloc (.cells (vals [0, 0, 0]) 5))) := ⟨hb0, J.gon hG hb0⟩
  have hv : vals [0, 0, 0] = #[.int .u8 0, .int .u8 0, .int .u8 0] := rfl
  rw [hv] at hnew HB0
  clear hb0 hblk hk0 hv hG
  go_enter Tryd.func9, Tryd.ntmps9
  go_wp2_with fail
  refine hnew.mono ?_
  rintro _ w1 (⟨h, _⟩ | ⟨_, h, _⟩ | ⟨_, _, p, rfl, ⟨F, W1, D1, T1, hW1, hD1, hT1, hA, hF⟩, hb1⟩)
  · exact absurd ⟨⟨by omega, by omega, by omega, by omega, by omega, by omega⟩, by decide⟩ h
  · exact absurd (kinds3 (by omega) (by omega) (by omega)) h
  obtain rfl : W1 = 3 := by omega
  obtain rfl : D1 = 1 := by omega
  obtain rfl : T1 = 1 := by omega
  have H1 : Hid (Aw J w [0, 0, 0] p F w1) := ⟨J.gon HB0.out.2 hb1, hA, HB0.out.1.trans (hb1.mono HB0.out.1.size), fun j hj => Nat.le_trans HB0.out.1.size (hF j hj)⟩
  clear hnew HB0 hA hF hb1 hW1 hD1 hT1
  have hc := H1.out.set (kinds3 (by omega) (by omega) (by omega)) rfl 1 13 (by omega) (by omega)
  go_wp2_with fail
  refine hc.mono ?_
  rintro _ w2 ⟨rfl, F2, h2⟩
  have H2 : Hid (Aw J w [0, 13, 0] p F2 w2) := h2
  clear hc h2 H1
  have hc := H2.out.lamp (kinds3 (by omega) (by omega) (by omega)) rfl [13, 14, 13] ex1
  go_wp2_with fail
  refine hc.mono ?_
  rintro _ w3 ⟨g3, c3, F3, rfl, hp, h3⟩
  have vt : (convert 22 9 (.slice (some ⟨g3, 0, none⟩) 3 c3)).run Tryd.prog w3 = .ok (.string ⟨#[13, 14, 13]⟩) w3 := by rw [← s1]; exact pre_text hp rfl (kinds3 (by omega) (by omega) (by omega))
  have H3 : Hid (Aw J w [0, 13, 0] p F3 w3) := h3
  clear hc h3 H2 hp
  have hc := H3.out.set (kinds3 (by omega) (by omega) (by omega)) rfl 0 1 (by omega) (by omega)
  go_wp2_with fail
  refine hc.mono ?_
  rintro _ w4 ⟨rfl, F4, h4⟩
  have H4 : Hid (Aw J w [1, 13, 0] p F4 w4) := h4
  clear hc h4 H3 vt
  have hc := H4.out.lamp (kinds3 (by omega) (by omega) (by omega)) rfl [0, 14, 13] ex2
  go_wp2_with fail
  refine hc.mono ?_
  rintro _ w5 ⟨g5, c5, F5, rfl, hp, h5⟩
  have vt : (convert 22 9 (.slice (some ⟨g5, 0, none⟩) 3 c5)).run Tryd.prog w5 = .ok (.string ⟨#[0, 14, 13]⟩) w5 := by rw [← s2]; exact pre_text hp rfl (kinds3 (by omega) (by omega) (by omega))
  have H5 : Hid (Aw J w [1, 13, 0] p F5 w5) := h5
  clear hc h5 H4 hp
  have hc := H5.out.set (kinds3 (by omega) (by omega) (by omega)) rfl 1 0 (by omega) (by omega)
  go_wp2_with fail
  refine hc.mono ?_
  rintro _ w6 ⟨rfl, F6, h6⟩
  have H6 : Hid (Aw J w [1, 0, 0] p F6 w6) := h6
  clear hc h6 H5 vt
  have hc := H6.out.lamp (kinds3 (by omega) (by omega) (by omega)) rfl [0, 0, 0] ex3
  go_wp2_with fail
  refine hc.mono ?_
  rintro _ w7 ⟨g7, c7, F7, rfl, hp, h7⟩
  have vt : (convert 22 9 (.slice (some ⟨g7, 0, none⟩) 3 c7)).run Tryd.prog w7 = .ok (.string ⟨#[0, 0, 0]⟩) w7 := by rw [← s3]; exact pre_text hp rfl (kinds3 (by omega) (by omega) (by omega))
  have H7 : Hid (Aw J w [1, 0, 0] p F7 w7) := h7
  clear hc h7 H6 hp
  have hc := H7.out.sky (kinds3 (by omega) (by omega) (by omega)) rfl [0, 15, 15] ex4
  go_wp2_with fail
  refine hc.mono ?_
  rintro _ w8 ⟨g8, c8, F8, rfl, hp, h8⟩
  have vt : (convert 22 9 (.slice (some ⟨g8, 0, none⟩) 3 c8)).run Tryd.prog w8 = .ok (.string ⟨#[0, 15, 15]⟩) w8 := by rw [← s4]; exact pre_text hp rfl (kinds3 (by omega) (by omega) (by omega))
  have R := HP.out w8 h8.g h8.b
  clear hc h8 H7 hp HP
  go_wp2
  first | exact R | (go_ret; exact R)
end Go.Proofs.YtmfjmcaaoljjlaaDoor
