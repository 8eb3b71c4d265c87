/-
  SpaceNew, from what is asked of a space.
-/
import Derived.Test.YtffhnecdmdmmkaaSawake
set_option maxRecDepth 20000
namespace Go.Proofs.Ytffhnecdmdmmkaa
open Go.RowKit

theorem large_new (h n : Nat) (hh : h ≤ n) : largeS (spansS h (List.replicate n false)) = n - h := by
  rw [spans_new h n hh]
  split
  · simp [largeS]
  · simp [largeS]; omega
set_option maxHeartbeats 1000000 in
theorem spaceNew_walk (J : SSpec) (n h : Int) (hn : I64 n) (hh : I64 h) (w : World) : Calls Try.prog 3 #[.int .i64 n, .int .i64 h] w fun e w' => e = .returned (.bool true) ∧ Below w.heap.size w w' := by
  obtain ⟨Post, hPost⟩ : ∃ Post : Ending → World → Prop, Post = fun e w' => e = .returned (.bool true) ∧ Below w.heap.size w w' := ⟨_, rfl⟩
  rw [← hPost]
  have HP : Hid (∀ w', Below w.heap.size w w' → Post (.returned (.bool true)) w') := fun w' h => by rw [hPost]; exact ⟨rfl, h⟩
  clear hPost
  go_enter Try.func3, Try.ntmps3
  go_wp2_with fail
  refine (awake_s J w).mono ?_
  rintro _ w1 ⟨rfl, hb1⟩
  have Hb1 : Hid (Below w.heap.size w w1) := hb1
  clear hb1
  by_cases hbad : badNew n h
  · go_wp2_with fail
    refine (J.new_ n h w1 hn hh).mono ?_
    rintro e w2 ⟨hb2, ⟨_, rfl⟩ | ⟨h1, _⟩⟩
    · have Hb2 : Hid (Below w.heap.size w w2) := Hb1.out.trans (hb2.mono Hb1.out.size)
      clear hb2 Hb1
      go_wp2_with fail
      refine (rnew_c n h hn hh w2).mono ?_
      rintro e w3 ⟨hb3, ⟨_, rfl⟩ | ⟨h1, _⟩⟩
      · have R := HP.out w3 (Hb2.out.trans (hb3.mono Hb2.out.size))
        clear HP Hb2 hb3
        go_wp2
        exact R
      · exact absurd hbad h1
    · exact absurd hbad h1
  · go_wp2_with fail
    refine (snew J n h w1 hn hh hbad).mono ?_
    rintro _ w2 ⟨g, F2, rfl, hS2⟩
    have H2 : Hid (Sk J F2 w1 w2 g h.toNat (List.replicate n.toNat false)) := hS2
    clear hS2
    go_wp2_with fail
    refine (rnew_c n h hn hh w2).mono ?_
    rintro e w3 ⟨hb3, ⟨h1, _⟩ | ⟨_, rg, tb, hg1, ht1, rfl, hR3⟩⟩
    · exact absurd h1 hbad
    · have H3 : Hid (Sk J F2 w1 w3 g h.toNat (List.replicate n.toNat false)) := H2.out.on hb3
      have HR3 : Hid (RS w3 rg tb h.toNat (List.replicate n.toNat false) ∧ ¬ F2 rg ∧ ¬ F2 tb) := ⟨hR3, fun hf => by have := (H2.out.lt _ hf).2; omega, fun hf => by have := (H2.out.lt _ hf).2; omega⟩
      have hge : 0 ≤ h ∧ h ≤ n ∧ n ≤ 4096 := by unfold badNew at hbad; omega
      have Hlg : Hid (((largeS (spansS h.toNat (List.replicate n.toNat false)) : Nat) : Int) = n - h) := by
        show _ = _
        rw [large_new _ _ (by omega)]
        omega
      clear hR3 hb3 H2 hg1 ht1 hbad
      go_wp2_with fail
      refine (sroom H3.out).mono ?_
      rintro _ w4 ⟨rfl, F4, hS4, hT4⟩
      have H4 : Hid (Sk J F4 w1 w4 g h.toNat (List.replicate n.toNat false)) := hS4
      have HR4 : Hid (RS w4 rg tb h.toNat (List.replicate n.toNat false) ∧ ¬ F4 rg ∧ ¬ F4 tb) := HR3.out.1.stp hT4 HR3.out.2.1 HR3.out.2.2
      clear hS4 hT4 H3 HR3
      go_wp2_with fail
      refine (rroom_c rg tb _ _ w4 HR4.out.1).mono ?_
      rintro _ w5 ⟨rfl, hb5⟩
      have H5 : Hid (Sk J F4 w1 w5 g h.toNat (List.replicate n.toNat false)) := H4.out.on hb5
      clear hb5 H4 HR4
      generalize roomS (spansS h.toNat (List.replicate n.toNat false)) = rm at *
      go_wp2_with fail
      refine (slarge H5.out).mono ?_
      rintro _ w6 ⟨rfl, F6, hS6, _⟩
      have R := HP.out w6 (Hb1.out.trans (hS6.below.mono Hb1.out.size))
      rw [Hlg.out]
      clear HP hS6 H5 Hlg Hb1
      go_wp2
      exact R
end Go.Proofs.Ytffhnecdmdmmkaa
