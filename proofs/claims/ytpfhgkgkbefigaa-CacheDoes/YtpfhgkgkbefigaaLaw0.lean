/-
  The laws' at and awake.
-/
import Derived.Test.YtpfhgkgkbefigaaHsince
import Derived.Test.YtpfhgkgkbefigaaKk
import Derived.Test.YtpfhgkgkbefigaaCnu
import Derived.LoopN
set_option maxRecDepth 20000
namespace Go.Proofs.Ytpfhgkgkbefigaa
open Go.RowKit Go.Maps

theorem at_c (x : Int) (w : World) : Calls Try.prog 25 #[.int .i64 x] w fun e w' => e = .returned (valA x 0) ∧ Below w.heap.size w w' := by
  go_enter Try.func25, Try.ntmps25
  go_wp2
  exact bodyPost_ret (results_cell_row rfl _ _ w.heap.size 31 _ (0, 0) _ rfl (heap_alloc_new w _) Try.underlying31 rfl (by kernel_rfl)) rfl ⟨rfl, (Below.refl _ w).alloc (Nat.le_refl _) _⟩
/-- Where the example stands. -/
structure Aw (w : World) (c : Nat) (l : List E) (N : Nat) (w' : World) : Prop where
  cs : CS w.heap.size w' c 2 l N
  below : Below w.heap.size w w'
theorem Aw.on {w : World} {c : Nat} {l : List E} {N : Nat} {w1 w2 : World} (h : Aw w c l N w1) (hb : Below w1.heap.size w1 w2) : Aw w c l N w2 := ⟨h.cs.below hb, h.below.trans (hb.mono h.below.size)⟩
theorem Aw.to {w : World} {c : Nat} {l l' : List E} {N N' : Nat} {w1 w2 : World} (h : Aw w c l N w1) (hc : CS w.heap.size w2 c 2 l' N') (hk : KeepT isP w.heap.size w1 w2) : Aw w c l' N' w2 :=
  ⟨hc, h.below.trans (hk.below h.below.size)⟩
theorem i64 {x : Int} (h : -1000 ≤ x ∧ x ≤ 1000) : I64 x := by unfold I64; omega
section
variable {w : World} {c : Nat} {l : List E} {N : Nat} {w1 : World}
theorem Aw.put (h : Aw w c l N w1) (hN : N ≤ 900) (x v : Int) (hx : -1000 ≤ x ∧ x ≤ 1000) : Calls Try.prog 9 #[.pointer (some ⟨c, 0, none⟩), valA x 0, .int .i64 v] w1 fun e w' => e = .returned (.tuple #[]) ∧ Aw w c (putE l x 0 v) (N + 1) w' :=
  (put_c h.cs (i64 hx) (i64 (by omega)) v hN).mono fun _ _ ⟨he, h1, h2⟩ => ⟨he, h.to h1 h2⟩
theorem Aw.get (h : Aw w c l N w1) (hN : N ≤ 900) (x : Int) (hx : -1000 ≤ x ∧ x ≤ 1000) : Calls Try.prog 11 #[.pointer (some ⟨c, 0, none⟩), valA x 0] w1 fun e w' => e = .returned (.tuple #[.int .i64 (valE (findE l x 0)), .bool (findE l x 0).isSome]) ∧ Aw w c (getE l x 0) (N + 1) w' :=
  (get_c h.cs (i64 hx) (i64 (by omega)) hN).mono fun _ _ ⟨he, h1, h2⟩ => ⟨he, h.to h1 h2⟩
theorem Aw.pin (h : Aw w c l N w1) (x : Int) (hx : -1000 ≤ x ∧ x ≤ 1000) : Calls Try.prog 13 #[.pointer (some ⟨c, 0, none⟩), valA x 0] w1 fun e w' => e = .returned (.bool (okE l x 0 true)) ∧ Aw w c (pinE l x 0 true) N w' :=
  (pin_c h.cs (i64 hx) (i64 (by omega))).mono fun _ _ ⟨he, h1, h2⟩ => ⟨he, h.to h1 h2⟩
theorem Aw.unpin (h : Aw w c l N w1) (hN : N ≤ 900) (x : Int) (hx : -1000 ≤ x ∧ x ≤ 1000) : Calls Try.prog 15 #[.pointer (some ⟨c, 0, none⟩), valA x 0] w1 fun e w' => e = .returned (.bool (okE l x 0 false)) ∧ Aw w c (pinE l x 0 false) N w' :=
  (unpin_c h.cs (i64 hx) (i64 (by omega)) hN).mono fun _ _ ⟨he, h1, h2⟩ => ⟨he, h.to h1 h2⟩
theorem Aw.trim (h : Aw w c l N w1) : Calls Try.prog 19 #[.pointer (some ⟨c, 0, none⟩)] w1 fun e w' => ∃ a cp, e = .returned (.slice a (trimE 2 l).2.length cp) ∧ ARow w1.heap.size w' a cp (trimE 2 l).2 ∧ Aw w c (trimE 2 l).1 N w' :=
  (trim_c h.cs (by omega)).mono fun _ _ ⟨a, cp, he, hr, h1, h2⟩ => ⟨a, cp, he, hr, h.to h1 h2⟩
theorem Aw.keys (h : Aw w c l N w1) : Calls Try.prog 21 #[.pointer (some ⟨c, 0, none⟩)] w1 fun e w' => ∃ a cp, e = .returned (.slice a (keysE l).length cp) ∧ ARow w1.heap.size w' a cp (keysE l) ∧ Below w1.heap.size w1 w' ∧ Aw w c l N w' :=
  (keys_c h.cs).mono fun _ _ ⟨a, cp, he, hr, hb⟩ => ⟨a, cp, he, hr, hb, h.on hb⟩
end
def aw1 : List E := [⟨1, 0, 10, false⟩, ⟨2, 0, 20, false⟩, ⟨3, 0, 30, false⟩]
def aw2 : List E := [⟨2, 0, 20, false⟩, ⟨3, 0, 30, false⟩, ⟨1, 0, 10, false⟩]
def aw3 : List E := [⟨2, 0, 20, true⟩, ⟨3, 0, 30, false⟩, ⟨1, 0, 10, false⟩]
def aw4 : List E := [⟨3, 0, 30, false⟩, ⟨1, 0, 10, false⟩]
set_option maxHeartbeats 2000000 in
theorem awake_c (w : World) : Calls Try.prog 7 #[] w fun e w' => e = .returned (.bool true) ∧ Below w.heap.size w w' := by
  obtain ⟨Post, hPost⟩ : ∃ Post : Ending → World → Prop, Post = fun e w' => e = .returned (.bool true) ∧ Below w.heap.size w w' := ⟨_, rfl⟩
  rw [← hPost]
  have HP : Hid (∀ w', Below w.heap.size w w' → Post (.returned (.bool true)) w') := fun w' h1 => by rw [hPost]; exact ⟨rfl, h1⟩
  clear hPost
  have hnew := new_c (B := w.heap.size) 2 w (by omega) (Nat.le_refl _)
  go_enter Try.func7, Try.ntmps7
  go_wp2_with fail
  refine hnew.mono ?_
  clear hnew
  rintro _ w1 ⟨c, rfl, hcs, hb⟩
  have h0 : Hid (Aw w c [] 0 w1) := ⟨hcs, hb⟩
  have hno := new_no 0 w1 (by omega)
  clear hcs hb
  go_wp2_with fail
  refine hno.mono ?_
  clear hno
  rintro _ w2 ⟨rfl, hw⟩
  replace hw := hw.symm
  subst hw
  go_wp2
  refine wp_loop_rounds 4 ?_
  rw [rounds_succ]
  have ha := at_c 1 w1
  go_wp2_with fail
  refine ha.mono ?_
  clear ha
  rintro _ w2 ⟨rfl, hb⟩
  have h1 : Hid (Aw w c [] 0 w2) := h0.out.on hb
  have hp := h1.out.put (by omega) 1 10 (by omega)
  clear h0 hb h1
  go_wp2_with fail
  refine hp.mono ?_
  clear hp
  rintro _ w3 ⟨rfl, h2⟩
  have h2 : Hid (Aw w c [⟨1, 0, 10, false⟩] 1 w3) := h2
  go_wp2
  rw [rounds_succ]
  have ha := at_c 2 w3
  go_wp2_with fail
  refine ha.mono ?_
  clear ha
  rintro _ w4 ⟨rfl, hb⟩
  have h3 : Hid (Aw w c [⟨1, 0, 10, false⟩] 1 w4) := h2.out.on hb
  have hp := h3.out.put (by omega) 2 20 (by omega)
  clear h2 hb h3
  go_wp2_with fail
  refine hp.mono ?_
  clear hp
  rintro _ w5 ⟨rfl, h4⟩
  have h4 : Hid (Aw w c [⟨1, 0, 10, false⟩, ⟨2, 0, 20, false⟩] 2 w5) := h4
  go_wp2
  rw [rounds_succ]
  have ha := at_c 3 w5
  go_wp2_with fail
  refine ha.mono ?_
  clear ha
  rintro _ w6 ⟨rfl, hb⟩
  have h5 : Hid (Aw w c [⟨1, 0, 10, false⟩, ⟨2, 0, 20, false⟩] 2 w6) := h4.out.on hb
  have hp := h5.out.put (by omega) 3 30 (by omega)
  clear h4 hb h5
  go_wp2_with fail
  refine hp.mono ?_
  clear hp
  rintro _ w7 ⟨rfl, h6⟩
  have h6 : Hid (Aw w c aw1 3 w7) := h6
  go_wp2
  rw [rounds_succ]
  have ha := at_c 1 w7
  go_wp2_with fail
  refine ha.mono ?_
  clear ha
  rintro _ w8 ⟨rfl, hb⟩
  have h7 : Hid (Aw w c aw1 3 w8) := h6.out.on hb
  have hp : Calls Try.prog 11 #[.pointer (some ⟨c, 0, none⟩), valA 1 0] w8 fun e w' => e = .returned (.tuple #[.int .i64 10, .bool true]) ∧ Aw w c aw2 4 w' := h7.out.get (by omega) 1 (by omega)
  clear h6 hb h7
  go_wp2_with fail
  refine hp.mono ?_
  clear hp
  rintro _ w9 ⟨rfl, h8⟩
  have h8 : Hid (Aw w c aw2 4 w9) := h8
  have ha := at_c 2 w9
  go_wp2_with fail
  refine ha.mono ?_
  clear ha
  rintro _ w10 ⟨rfl, hb⟩
  have h9 : Hid (Aw w c aw2 4 w10) := h8.out.on hb
  have hp : Calls Try.prog 13 #[.pointer (some ⟨c, 0, none⟩), valA 2 0] w10 fun e w' => e = .returned (.bool true) ∧ Aw w c aw3 4 w' := h9.out.pin 2 (by omega)
  clear h8 hb h9
  go_wp2_with fail
  refine hp.mono ?_
  clear hp
  rintro _ w11 ⟨rfl, h10⟩
  have h10 : Hid (Aw w c aw3 4 w11) := h10
  have hp : Calls Try.prog 19 #[.pointer (some ⟨c, 0, none⟩)] w11 fun e w' => ∃ a cp, e = .returned (.slice a 0 cp) ∧ ARow w11.heap.size w' a cp [] ∧ Aw w c aw3 4 w' := h10.out.trim
  clear h10
  go_wp2_with fail
  refine hp.mono ?_
  clear hp
  rintro _ w12 ⟨a1, c1, rfl, _, h11⟩
  have h11 : Hid (Aw w c aw3 4 w12) := h11
  have ha := at_c 2 w12
  go_wp2_with fail
  refine ha.mono ?_
  clear ha
  rintro _ w13 ⟨rfl, hb⟩
  have h12 : Hid (Aw w c aw3 4 w13) := h11.out.on hb
  have hp : Calls Try.prog 15 #[.pointer (some ⟨c, 0, none⟩), valA 2 0] w13 fun e w' => e = .returned (.bool true) ∧ Aw w c aw2 4 w' := h12.out.unpin (by omega) 2 (by omega)
  clear h11 hb h12
  go_wp2_with fail
  refine hp.mono ?_
  clear hp
  rintro _ w14 ⟨rfl, h13⟩
  have h13 : Hid (Aw w c aw2 4 w14) := h13
  have hp : Calls Try.prog 19 #[.pointer (some ⟨c, 0, none⟩)] w14 fun e w' => ∃ a cp, e = .returned (.slice a 1 cp) ∧ ARow w14.heap.size w' a cp [(2, 0)] ∧ Aw w c aw4 4 w' := h13.out.trim
  clear h13
  go_wp2_with fail
  refine hp.mono ?_
  clear hp
  rintro _ w15 ⟨a2, c2, rfl, hr2, h14⟩
  have h14 : Hid (Aw w c aw4 4 w15) := h14
  have hr2 : Hid (ARow w14.heap.size w15 a2 c2 [(2, 0)]) := hr2
  have hp : Calls Try.prog 21 #[.pointer (some ⟨c, 0, none⟩)] w15 fun e w' => ∃ a cp, e = .returned (.slice a 2 cp) ∧ ARow w15.heap.size w' a cp [(3, 0), (1, 0)] ∧ Below w15.heap.size w15 w' ∧ Aw w c aw4 4 w' := h14.out.keys
  clear h14
  go_wp2_with fail
  refine hp.mono ?_
  clear hp
  rintro _ w16 ⟨a3, c3, rfl, hr3, hb3, h15⟩
  have hr2' := hr2.out.below hb3
  have HBL : Hid (Below w.heap.size w w16) := h15.below
  rcases hr2'.form with ⟨_, hx⟩ | ⟨g2, rfl⟩
  · cases hx
  rcases hr3.form with ⟨_, hx⟩ | ⟨g3, rfl⟩
  · cases hx
  have k2 := hr2'.cell (k := 0) (by simp)
  have k3 := hr3.cell (k := 0) (by simp)
  have k4 := hr3.cell (k := 1) (by simp)
  obtain ⟨k20, k21⟩ := k2
  obtain ⟨k30, k31⟩ := k3
  obtain ⟨k40, k41⟩ := k4
  simp only [List.getElem_cons_zero, List.getElem_cons_succ, Nat.zero_mul, Nat.one_mul, Nat.zero_add, Nat.reduceAdd] at k20 k21 k30 k31 k40 k41
  clear hr2 hr2' hr3 hb3 h15
  go_wp2
  have hsome := since_some w16
  have s20 := fun s : Since w16 => Since.cell k20 s
  have s21 := fun s : Since w16 => Since.cell k21 s
  have s30 := fun s : Since w16 => Since.cell k30 s
  have s31 := fun s : Since w16 => Since.cell k31 s
  have s40 := fun s : Since w16 => Since.cell k40 s
  have s41 := fun s : Since w16 => Since.cell k41 s
  refine wp_region_since (by kernel_rfl) (by kernel_rfl) ?_
  repeat (go_big_quiet_step ((go_at_call 25; exact Calls.since (at_c _ _))))
  refine wpQuiet_nil ?_
  rintro _ ⟨s, rfl⟩
  have R := HP.out s.w (HBL.out.trans (s.bel.mono HBL.out.size))
  go_wp2
  exact R
end Go.Proofs.Ytpfhgkgkbefigaa
