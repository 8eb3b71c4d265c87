/-
  The laws' Scape.
-/
import Derived.Test.YtjeapaojbkicmabDoorLscp2
import Derived.Test.YtjeapaojbkicmabDoorLnine
set_option maxRecDepth 20000
namespace Go.Proofs.YtjeapaojbkicmabDoor
open C Go.RowKit L

/-- What Scape gives back. -/
structure ScG (w : World) (F : Nat → Nat → Nat → Int) (b : Nat) (gs : Nat → Nat) (css : List (List Int)) (w' : World) : Prop where
  sh : Sh css F
  nr : Nr w' b gs (fun _ => 32768) css
  ap : ∀ i j, i < 9 → j < 9 → gs i = gs j → i = j
  low : ∀ j, j < 9 → w.heap.size ≤ gs j
  bel : Below w.heap.size w w'
theorem air_start {w W : World} {av : Option Addr} {cv : Nat} (h : Air9 w 9 av cv W) : ∃ b gs, av = some ⟨b, 0, none⟩ ∧ ScO ⟨b, gs, W⟩ ∧ ScX ⟨b, gs, W⟩ (fun _ _ _ => 0) W ∧ (∀ j, j < 9 → w.heap.size ≤ gs j) ∧ Below w.heap.size w W := by
  obtain ⟨gs, h⟩ := h
  obtain ⟨b, e, hr⟩ := h.row (by omega)
  have hlen := h.len
  have hg : ∀ j, j < 9 → gs.getD j 0 ∈ gs := fun j hj => by
    rw [List.getD_eq_getElem?_getD, List.getElem?_eq_getElem (show j < gs.length by omega)]
    exact List.getElem_mem _
  refine ⟨b, fun j => gs.getD j 0, e, ⟨fun i j hi hj q => ?_, fun j hj q => ?_, hr⟩, ⟨List.replicate 9 (List.replicate 32768 0), ⟨List.length_replicate, fun j hj => ?_, fun x z y hx hz hy => ?_⟩, fun j hj => ?_, rfl, rfl, rfl, rfl, fun _ _ => rfl⟩, fun j hj => h.low _ (hg j hj), h.bel⟩
  · simp only [List.getD_eq_getElem?_getD, List.getElem?_eq_getElem (show i < gs.length by omega), List.getElem?_eq_getElem (show j < gs.length by omega), Option.getD_some] at q
    rcases Nat.lt_trichotomy i j with h1 | h1 | h1
    · exact absurd q (List.pairwise_iff_getElem.1 h.nd i j (by omega) (by omega) h1)
    · exact h1
    · exact absurd q.symm (List.pairwise_iff_getElem.1 h.nd j i (by omega) (by omega) h1)
  · have h1 := h.blk j hj
    have h2 := h.own
    subst e
    have q' : gs.getD j 0 = b := q
    rcases h2.2 with ⟨_, h0⟩ | ⟨g, cap, cur, hv, _, hh, _⟩
    · omega
    · injection hv with e1
      injection e1 with e1
      injection e1 with e1
      rw [← e1, ← q'] at hh
      rw [show W.heap[gs.getD j 0]? = _ from h1] at hh
      cases hh
  · rw [List.getD_eq_getElem?_getD, List.getElem?_replicate, if_pos hj]
    exact List.length_replicate
  · rw [List.getD_eq_getElem?_getD (l := List.replicate 9 _), List.getElem?_replicate, if_pos (by omega)]
    exact getD_replicate 32768 _ 0 (by omega)
  · rw [List.getD_eq_getElem?_getD, List.getElem?_replicate, if_pos hj]
    exact h.blk j hj
theorem blk_pre' {w : World} {g : Nat} {t : TypeId} {cs : List Int} (h : Blk w g t cs) : Pre w g t cs :=
  ⟨_, h, by rw [vals_size]; exact Nat.le_refl _, fun k hk => by simp [vals, hk]⟩
theorem scx_end {w W W' : World} {b : Nat} {gs : Nat → Nat} {F : Nat → Nat → Nat → Int} (o : ScO ⟨b, gs, W⟩) (h : ScX ⟨b, gs, W⟩ F W') (hl : ∀ j, j < 9 → w.heap.size ≤ gs j) (hb : Below w.heap.size w W) : ∃ css, ScG w F b gs css W' := by
  obtain ⟨css, h⟩ := h
  refine ⟨css, h.sh, ⟨fun j hj => h.row o hj, fun _ _ => Nat.le_refl _, fun j hj => ?_, h.sh.len⟩, o.ap, hl, ⟨h.os.trans hb.os, h.tape.trans hb.tape, h.output.trans hb.output, by rw [h.size]; exact hb.size, fun k hk => (h.same k (fun j hj q => ?_)).trans (hb.block k hk)⟩⟩
  · exact blk_pre' (h.blk j hj)
  · have := hl j hj
    have q' : k = gs j := q
    omega
set_option maxRecDepth 1000000 in
set_option maxHeartbeats 8000000 in
theorem scape_c (la : Option Addr) (lb lo n lc : Nat) (P : Nat → Nat → Int) (w : World) (hn : n ≤ 9223372036854775807) (hla : 0 < n → la = some ⟨lb, lo, none⟩) (hc : ∀ i, i < n → ∀ f, f < 7 → w.cell? ⟨lb, lo + i * 7 + f, none⟩ = some (.int .i64 (P i f))) :
    Calls Tryd.prog 5 #[.slice la n lc] w fun e w' => ∃ b cv gs css, e = .returned (.slice (some ⟨b, 0, none⟩) 9 cv) ∧ ScG w (partsF P (fun _ _ _ => 0) (min n 60)) b gs css w' := by
  obtain ⟨Post, hPost⟩ : ∃ Post : Ending → World → Prop, Post = fun e w' => ∃ b cv gs css, e = .returned (.slice (some ⟨b, 0, none⟩) 9 cv) ∧ ScG w (partsF P (fun _ _ _ => 0) (min n 60)) b gs css w' := ⟨_, rfl⟩
  rw [← hPost]
  have HP : Hid (∀ b cv gs css w', ScG w (partsF P (fun _ _ _ => 0) (min n 60)) b gs css w' → Post (.returned (.slice (some ⟨b, 0, none⟩) 9 cv)) w') := fun b cv gs css w' h => by rw [hPost]; exact ⟨_, _, _, _, rfl, h⟩
  clear hPost
  have HI : Hid (n ≤ 9223372036854775807 ∧ (0 < n → la = some ⟨lb, lo, none⟩) ∧ ∀ i, i < n → ∀ f, f < 7 → w.cell? ⟨lb, lo + i * 7 + f, none⟩ = some (.int .i64 (P i f))) := ⟨hn, hla, hc⟩
  clear hn hla hc
  go_enter Tryd.func5, Tryd.ntmps5
  go_wp2_with fail
  refine scp_loop0 _ w ?_
  intro z4 z13 z14 z15 z16 z17 z18 z19 z20 av cv W1 h1
  obtain ⟨b, gs, rfl, hO, hX, hlow, hbel⟩ := air_start h1
  have H1 : Hid (ScO ⟨b, gs, W1⟩ ∧ ScX ⟨b, gs, W1⟩ (fun _ _ _ => 0) W1 ∧ (∀ j, j < 9 → w.heap.size ≤ gs j) ∧ Below w.heap.size w W1) := ⟨hO, hX, hlow, hbel⟩
  clear h1 hO hX hlow hbel
  go_wp2_with fail
  refine scp_loop2 _ ⟨b, gs, W1⟩ H1.out.1 (fun _ _ _ => 0) la lb lo n lc cv P HI.out.1 HI.out.2.1 (fun h0 j hj q => ?_) (fun i hi f hf => ?_) W1 H1.out.2.1 ?_
  · have h1 := World.block_lt_of_cell? w _ (HI.out.2.2 0 h0 0 (by omega))
    have h2 := H1.out.2.2.1 j hj
    have q' : lb = gs j := q
    have h3 : lb < w.heap.size := h1
    omega
  · exact (H1.out.2.2.2.cell (p := ⟨lb, lo + i * 7 + f, none⟩) (World.block_lt_of_cell? w _ (HI.out.2.2 i hi f hf))).trans (HI.out.2.2 i hi f hf)
  intro y5 y6 y7 y8 y9 y10 y11 y12 y21 y22 y23 y24 y25 y26 y27 y28 y29 y30 y31 y32 y33 y34 y35 y36 y37 y38 y39 y40 y41 y42 y43 y44 y45 y46 y47 y48 y49 y50 y51 y52 y53 y54 y55 y56 y57 y58 y59 y60 y61 y62 y63 y64 y65 y66 y67 y68 y69 y70 y71 y72 y73 y74 y75 y76 y77 y78 y79 y80 y81 y82 y83 y84 y85 y86 y87 y88 y89 y90 y91 y92 y93 y94 y95 y96 y97 y98 y99 y100 y101 y102 y103 y104 y105 y106 y107 y108 y109 y110 y111 y112 y113 y114 y115 y116 y117 y118 y119 y120 y121 y122 y123 y124 y125 y126 W2 h2
  obtain ⟨css, hG⟩ := scx_end H1.out.1 h2 H1.out.2.2.1 H1.out.2.2.2
  have R := HP.out b cv gs css W2 hG
  clear h2 hG HP HI H1
  go_wp2
  first | exact R | (go_ret; exact R)
end Go.Proofs.YtjeapaojbkicmabDoor
