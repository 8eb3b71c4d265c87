/-
  The landed flooded: the light of the fifth chunk's cells, if these of all cells shine.
-/
import Derived.Test.YtjeapaojbkicmabDoorQspr
import Derived.Test.YtjeapaojbkicmabDoorQown
set_option maxRecDepth 20000
namespace Go.Proofs.YtjeapaojbkicmabDoor
open C Go.RowKit L

/-- The first p cells have offered. -/
def Sq0 (e : SqE) (s : L.Sys) (ls : List Int) (p : Nat) (W : World) : Prop := ∃ wait av cv, Sq e s 15 0 (fun a _ => a < p) (6 * p) ls wait av cv W
theorem vals_inj {a b : List Int} (h : vals a = vals b) : a = b := by
  unfold vals at h
  have h2 : a.map (Value.int .u8) = b.map (Value.int .u8) := by simpa using congrArg Array.toList h
  exact (List.map_inj_right (fun x y hxy => by cases hxy; rfl)).1 h2
/-- What flooded leaves. -/
structure FlQ (W0 : World) (s : L.Sys) (gl g : Nat) (W : World) : Prop where
  row : ∃ cs l, L.Told s l ∧ Blk W g 5 cs ∧ cs.length = 32768 ∧ ∀ i, i < 32768 → cs.getD i 0 = (l (pad (mid i)) : Int)
  low : W0.heap.size ≤ g
  gr : W0.grownBy W (some gl)
theorem Sq0.start (e : SqE) (ls : List Int) (s : L.Sys) (cs : Array Value) (W : World) (hW : W = e.w0.alloc (.cells cs 68)) (hf : e.gf = e.w0.heap.size) (hlen : ls.length = 325000) (hLv : Lv ls) (hs : ∀ i, li ls i = s.src i) (pl : Blk e.w0 e.gl 54 ls) (pL : Blk e.w0 e.gL 54 e.LS)
    (h18 : cs.size = 18) (h0 : cs[0]? = some (.pointer (some ⟨e.gL, 0, none⟩))) (h1 : cs[1]? = some (.pointer (some ⟨e.gl, 0, none⟩))) (h2 : ∀ v, v < 16 → cs[2 + v]? = some (.slice none 0 0)) : Sq0 e s ls 0 W := by
  have hb : Below e.w0.heap.size e.w0 W := by rw [hW]; exact (Below.refl _ _).alloc (Nat.le_refl _) _
  have hnew : W.heap[e.gf]? = some (.cells cs 68 (0, 0)) := by rw [hW, hf]; exact heap_alloc_new _ _
  refine ⟨fun _ => [], fun _ => none, fun _ => 0, ?_, hlen, hLv, pl.below hb pl.lt, pL.below hb pL.lt, ⟨⟨_, hnew, h18⟩, ?_, ?_, fun v hv => ?_, fun v _ => ⟨rfl, .inl ⟨rfl, rfl⟩⟩, fun u v g _ _ _ h => ?_, ?_⟩, fun v => Nat.zero_le _, ⟨hb.os, hb.tape, hb.output, hb.size, fun j hj _ => hb.block j hj⟩⟩
  · exact Bq.mono (Bq.start hs) (fun a b hd _ _ => absurd hd (Nat.not_lt_zero _))
  · exact (cell_of_row _ _ 0 _ 68 (0, 0) hnew).trans h0
  · exact (cell_of_row _ _ 1 _ 68 (0, 0) hnew).trans h1
  · exact (cell_of_row _ _ (2 + v) _ 68 (0, 0) hnew).trans (h2 v hv)
  · simp [Value.ownBlock] at h
  · rw [hf]; exact Nat.le_refl _
theorem Sq0.next {e : SqE} {s : L.Sys} {ls : List Int} {p : Nat} {W : World} (h : Sq0 e s ls p W) (h0 : li ls p = 0) : Sq0 e s ls (p + 1) W := by
  obtain ⟨wait, av, cv, h⟩ := h
  refine ⟨wait, av, cv, h.as (h.bq.mono fun a b hd _ _ => ?_) (by omega)⟩
  by_cases q : a = p
  · subst q; exact .inr (by omega)
  · exact .inl (by have : a < p + 1 := hd; omega)
theorem Sq0.done {e : SqE} {s : L.Sys} {ls : List Int} {W : World} (o : SqO e s) (h : Sq0 e s ls 325000 W) : Sq2 e s 15 W := by
  obtain ⟨wait, av, cv, h⟩ := h
  refine ⟨ls, wait, av, cv, h.as (h.bq.mono fun a b _ ha _ => .inl ?_) (by omega)⟩
  have := ((o.adj a b).1 ha).1
  unfold Inn at this
  show a < 325000
  omega
theorem FlQ.end {e : SqE} {s : L.Sys} {W2 W3 : World} (h2 : Sq2 e s 0 W2) (hO : ∀ ls : List Int, Blk W2 e.gl 54 ls → OwnG W2 W2.heap.size e.gl ls 2048 W3) : FlQ e.w0 s e.gl W2.heap.size W3 := by
  obtain ⟨ls, wait, av, cv, h⟩ := h2
  obtain ⟨⟨cs, h3, h4, h5⟩, h6, h7⟩ := hO ls h.pl
  refine ⟨⟨cs, li ls, h.bq.told, h3, h4, fun i hi => ?_⟩, h.gr.size, ⟨h7.os.trans h.gr.os, h7.tape.trans h.gr.tape, h7.output.trans h.gr.output, Nat.le_trans h.gr.size h7.size, fun j hj hne => (h7.block j (Nat.lt_of_lt_of_le hj h.gr.size)).trans (h.gr.block j hj hne)⟩⟩
  rw [h5 i (by omega)]
  have := (h.lv (pad (mid i))).1
  unfold li
  omega
set_option maxRecDepth 1000000 in
set_option maxHeartbeats 8000000 in
theorem flooded_c (e : SqE) (ls : List Int) (s : L.Sys) (hf : e.gf = e.w0.heap.size) (o : SqO e s) (hlen : ls.length = 325000) (hLv : Lv ls) (hs : ∀ i, li ls i = s.src i) (pl : Blk e.w0 e.gl 54 ls) (pL : Blk e.w0 e.gL 54 e.LS) :
    Calls Tryd.prog 17 #[.pointer (some ⟨e.gL, 0, none⟩), .pointer (some ⟨e.gl, 0, none⟩)] e.w0 fun en w' => ∃ g, en = .returned (.slice (some ⟨g, 0, none⟩) 32768 32768) ∧ FlQ e.w0 s e.gl g w' := by
  obtain ⟨Post, hPost⟩ : ∃ Post : Ending → World → Prop, Post = fun en w' => ∃ g, en = .returned (.slice (some ⟨g, 0, none⟩) 32768 32768) ∧ FlQ e.w0 s e.gl g w' := ⟨_, rfl⟩
  rw [← hPost]
  have HP : Hid (∀ g w', FlQ e.w0 s e.gl g w' → Post (.returned (.slice (some ⟨g, 0, none⟩) 32768 32768)) w') := fun g w' h => by rw [hPost]; exact ⟨g, rfl, h⟩
  clear hPost
  obtain ⟨W1, hW1⟩ : ∃ W1, W1 = e.w0.alloc (.cells #[.pointer (some ⟨e.gL, 0, none⟩), .pointer (some ⟨e.gl, 0, none⟩), .slice none 0 0, .slice none 0 0, .slice none 0 0, .slice none 0 0, .slice none 0 0, .slice none 0 0, .slice none 0 0, .slice none 0 0, .slice none 0 0, .slice none 0 0, .slice none 0 0, .slice none 0 0, .slice none 0 0, .slice none 0 0, .slice none 0 0, .slice none 0 0] 68) := ⟨_, rfl⟩
  have H0 : Hid (Sq0 e s ls 0 W1) := Sq0.start _ ls s _ W1 hW1 hf hlen hLv hs pl pL rfl rfl rfl (fun v hv => by
    have h : v = 0 ∨ v = 1 ∨ v = 2 ∨ v = 3 ∨ v = 4 ∨ v = 5 ∨ v = 6 ∨ v = 7 ∨ v = 8 ∨ v = 9 ∨ v = 10 ∨ v = 11 ∨ v = 12 ∨ v = 13 ∨ v = 14 ∨ v = 15 := by omega
    rcases h with rfl | rfl | rfl | rfl | rfl | rfl | rfl | rfl | rfl | rfl | rfl | rfl | rfl | rfl | rfl | rfl <;> rfl)
  have HW1 : Hid (W1 = e.w0.alloc (.cells #[.pointer (some ⟨e.gL, 0, none⟩), .pointer (some ⟨e.gl, 0, none⟩), .slice none 0 0, .slice none 0 0, .slice none 0 0, .slice none 0 0, .slice none 0 0, .slice none 0 0, .slice none 0 0, .slice none 0 0, .slice none 0 0, .slice none 0 0, .slice none 0 0, .slice none 0 0, .slice none 0 0, .slice none 0 0, .slice none 0 0, .slice none 0 0] 68)) := hW1
  have HF : Hid (e.gf = e.w0.heap.size) := hf
  have HO : Hid (SqO e s) := o
  have Hl : Hid (Lv ls ∧ ls.length = 325000) := ⟨hLv, hlen⟩
  clear hlen hLv hs pl pL o hW1 hf
  go_enter Tryd.func17, Tryd.ntmps17
  go_wp2
  rw [← HW1.out, ← HF.out]
  go_loopw [12] (fun vx wr => ∃ p : Nat, p ≤ 325000 ∧ vx = .int .i64 (p : Int) ∧ Hid (Sq0 e s ls p wr)) (fun vx _ => 325000 - (intOf vx).toNat)
  case atStart => exact ⟨0, by omega, rfl, H0⟩
  case round =>
    clear H0
    obtain ⟨p, hp, rfl, HS⟩ := hrel
    by_cases hlt : p < 325000
    case neg =>
      have hlt' : ¬ (p : Int) < 325000 := by omega
      have H2 : Sq2 e s 15 wr := Sq0.done HO.out (by obtain rfl : p = 325000 := by omega
                                                     exact HS.out)
      have hsp := spread_c e s HO.out wr H2
      clear HS H2 HW1 HF Hl hp hlt
      go_wp2_with fail
      refine hsp.mono ?_
      clear hsp
      rintro _ w2 ⟨rfl, h2⟩
      have H2 : Hid (Sq2 e s 0 w2) := h2
      clear h2
      have hc1 : w2.cell? ⟨e.gf, 1, none⟩ = some (.pointer (some ⟨e.gl, 0, none⟩)) := by
        obtain ⟨ls', wait, av, cv, h⟩ := H2.out
        exact h.wf.p1
      have hown : ∃ ls', Hid (Blk w2 e.gl 54 ls' ∧ ls'.length = 325000) := by
        obtain ⟨ls', wait, av, cv, h⟩ := H2.out
        exact ⟨ls', h.pl, h.len⟩
      obtain ⟨ls', Hls⟩ := hown
      have hoc := own_c e.gl ls' w2 Hls.out.1 Hls.out.2
      go_wp2_with fail
      refine hoc.mono ?_
      clear hoc hc1
      rintro _ w3 ⟨rfl, hO⟩
      have R := HP.out w2.heap.size w3 (FlQ.end H2.out (fun l hb => by
        have e9 : vals l = vals ls' := by
          have h1 : w2.heap[e.gl]? = some (.cells (vals l) 54 (0, 0)) := hb
          have h2 : w2.heap[e.gl]? = some (.cells (vals ls') 54 (0, 0)) := Hls.out.1
          rw [h1] at h2
          have h3 := Option.some.inj h2
          injection h3
        obtain ⟨⟨cs, h3, h4, h5⟩, h6, h7⟩ := hO
        have h10 : l = ls' := vals_inj e9
        rw [h10]
        exact ⟨⟨cs, h3, h4, h5⟩, h6, h7⟩))
      clear hO H2 HP Hls HO
      go_wp2
      first | exact R | (go_ret; exact R)
    have hlt' : (p : Int) < 325000 := by omega
    have wp1 : IntKind.i64.wrap ((p : Int) + 1) = ((p + 1 : Nat) : Int) := by rw [IntKind.wrap_i64]; omega
    clear HP
    obtain ⟨wait, av, cv, hS⟩ := HS.out
    have cp := hS.pl.cell (k := p) (by rw [Hl.out.2]; exact hlt)
    have bp := Hl.out.1 p
    obtain ⟨A, hA⟩ : ∃ A, ls.getD p 0 = A := ⟨_, rfl⟩
    have HA : Hid (ls.getD p 0 = A) := hA
    rw [hA] at cp bp
    obtain ⟨b0, b1⟩ := bp
    clear hA hS hlt HW1 HF
    go_wp2_with fail
    go_quiet (fail)
    clear cp
    have HS1 : Hid (Sq0 e s ls p (wr.drewN nq)) := by
      obtain ⟨wait, av, cv, hS⟩ := HS.out
      exact ⟨wait, av, cv, hS.on (below_drewN (Below.refl _ _) _)⟩
    clear HS
    by_cases h0 : 0 < A
    case neg =>
      have HE : Hid (Sq0 e s ls (p + 1) (wr.drewN nq)) := Sq0.next HS1.out (by unfold li; rw [HA.out]; omega)
      clear HS1 HA HO Hl
      go_wp2
      exact ⟨⟨p + 1, by omega, by simp, HE⟩, by simp [intOf]; omega⟩
    obtain ⟨wait', av', cv', hS⟩ := HS1.out
    have hin : Inn p := HO.out.inn p (li ls p) (hS.bq.sound p) (by unfold li; rw [HA.out]; omega)
    have hoff := offer_c e s HO.out 15 0 (6 * p) p (fun a _ => a < p) ls (wait' 15) (av' 15) (cv' 15) (wr.drewN nq) ⟨wait', av', cv', hS.as (hS.bq.mono fun a b hd _ _ => .inl (by
        rcases hd with hd | ⟨_, j, hj, _⟩
        · exact hd
        · omega)) (by omega), rfl, rfl, rfl⟩ hin (by unfold li; rw [HA.out]; omega) (by omega)
    clear hS hin HS1 HA
    go_wp2_with fail
    refine hoff.mono ?_
    clear hoff
    rintro _ w2 ⟨rfl, hX⟩
    have HE : Hid (Sq0 e s ls (p + 1) w2) := by
      obtain ⟨wait2, av2, cv2, h1, _⟩ := hX
      have h5 := dx_end HO.out h1
      refine ⟨wait2, av2, cv2, h5.as (h5.bq.mono fun a b hd _ _ => .inl ?_) (by omega)⟩
      have hd' : a < p + 1 := hd
      by_cases q : a = p
      · exact .inr q
      · exact .inl (by omega)
    clear hX HO Hl
    go_wp2
    exact ⟨⟨p + 1, by omega, by simp, HE⟩, by simp [intOf]; omega⟩
end Go.Proofs.YtjeapaojbkicmabDoor
