/-
  The landed cache: Put, walked.
-/
import Derived.Test.YtpfhgkgkbefigaaCput
set_option maxRecDepth 20000
namespace Go.Proofs.Ytpfhgkgkbefigaa
open Go.RowKit Go.Maps

/-- What Put leaves. -/
def PutSay (B : Nat) (w : World) (c : Nat) (most : Int) (l : List E) (N : Nat) (x z v : Int) (e : Ending) (w' : World) : Prop :=
  e = .returned (.tuple #[]) ∧ CS B w' c most (putE l x z v) (N + 1) ∧ KeepT isP B w w'
theorem eq49 (b : Nat) (w : World) : (binOp .eql 49 (.map (some b)) (.map none)).run Try.prog w = .ok (.bool false) w := by kernel_rfl
theorem cell_alloc {w : World} {a : Addr} {v : Value} (h : w.cell? a = some v) (o : Obj) : (w.alloc o).cell? a = some v := (((Below.refl w.heap.size w).alloc (Nat.le_refl _) o).cell (World.block_lt_of_cell? w _ h)).trans h
theorem below_drewN (w : World) (n : Nat) : Below w.heap.size w (w.drewN n) := ⟨rfl, rfl, rfl, Nat.le_refl _, fun _ _ => rfl⟩
set_option maxHeartbeats 1000000 in
theorem put_c {B : Nat} {w : World} {c : Nat} {most : Int} {l : List E} {N : Nat} (H : CS B w c most l N) {x z : Int} (hx : I64 x) (hz : I64 z) (v : Int) (hN : N ≤ 900) :
    Calls Try.prog 9 #[.pointer (some ⟨c, 0, none⟩), valA x z, .int .i64 v] w (PutSay B w c most l N x z v) := by
  obtain ⟨h, av, cap, D, q, I, Dm, H⟩ := H
  obtain ⟨Post, hPost⟩ : ∃ Post : Ending → World → Prop, Post = PutSay B w c most l N x z v := ⟨_, rfl⟩
  rw [← hPost]
  have HP : Hid (∀ e w', PutSay B w c most l N x z v e w' → Post e w') := fun e w' h1 => by rw [hPost]; exact h1
  clear hPost
  obtain ⟨hb0, x0, x1⟩ := box_new w x z
  have H1 := H.below hb0
  have hfm := find_map D q I x z
  rw [← H.eq] at hfm
  have c2 := H1.cc.qh.hd.c2
  have hl : ∀ n, (Instr.lookup 49 (.map (some h.mb)) (.agg #[.int .i64 x, .int .i64 z]) false).run Try.prog ((w.alloc (.cells #[.int .i64 x, .int .i64 z] 31)).drewN n) = .ok (pvo (lookI D I x z)) ((w.alloc (.cells #[.int .i64 x, .int .i64 z] 31)).drewN n) :=
    fun n => H1.cc.mi.lookup (w := (w.alloc (.cells #[.int .i64 x, .int .i64 z] 31)).drewN n) (ownsMap_same H1.cc.mp rfl) hx hz
  cases hlk : lookI D I x z with
  | some b =>
    rw [hlk] at hl hfm
    obtain ⟨hb, ex, ez⟩ := lookI_some hlk
    have HU : Hid (∀ n, (((w.alloc (.cells #[.int .i64 x, .int .i64 z] 31)).drewN n).cell? ⟨b, 2, none⟩ = some (.int .i64 (D b).v) ∧ ((w.alloc (.cells #[.int .i64 x, .int .i64 z] 31)).drewN n).frozen? ⟨b, 2, none⟩ = false) ∧
        Calls Try.prog 27 #[.pointer (some ⟨c, 0, none⟩), pv b] (((w.alloc (.cells #[.int .i64 x, .int .i64 z] 31)).drewN n).setCell ⟨b, 2, none⟩ (.int .i64 v)) fun e w' => e = .returned (.tuple #[]) ∧ Post (.returned (.tuple #[])) w') := fun n => by
      have H2 := H1.below (below_drewN _ n)
      have hE := H2.cc.putEnd (v := v) H.mo H.us hN (Nat.le_succ_of_le H.ln) hb (H.srt.sublist List.erase_sublist) (fun a ha _ => H.top a ha) rfl ex ez rfl
      refine ⟨hE.1, hE.2.mono ?_⟩
      rintro e w' ⟨rfl, h1, h2⟩
      refine ⟨rfl, HP.out _ _ ⟨rfl, ?_, (KeepT.of_below hb0).trans ((KeepT.of_below (below_drewN _ n)).trans h2)⟩⟩
      unfold putE
      rw [hfm, H.eq, ← ex, ← ez, rem_map H.cc.mi hb, ex, ez]
      exact h1
    clear HP H H1 hfm hlk hb0 ex ez
    unfold pvo at hl
    unfold pv at *
    generalize (D b).v = vb at *
    generalize h.mb = mb at *
    have hq := eq49 mb
    go_enter Try.func9, Try.ntmps9
    go_upto_region 1 with fail
    generalize w.alloc (.cells #[.int .i64 x, .int .i64 z] 31) = w0 at *
    go_wp2
    go_big_quiet (fail)
    obtain ⟨⟨b2, bf2⟩, hcall⟩ := HU.out nq
    clear HU hl c2 x0 x1
    generalize w0.drewN nq = w1 at *
    go_wp2_with fail
    refine hcall.mono ?_
    clear hcall
    rintro _ w3 ⟨rfl, R⟩
    go_wp2
    go_end0
    exact R
  | none =>
    rw [hlk] at hl hfm
    have hln : I.length ≤ 900 := Nat.le_trans H.ln hN
    -- the worlds on the way, from any world behind the look
    have HU : Hid (∀ n, ∀ w1, w1 = (w.alloc (.cells #[.int .i64 x, .int .i64 z] 31)).drewN n → ∃ w3, (∀ o, o = (w1.alloc (.cells #[.int .i64 x, .int .i64 z, .int .i64 0, .int .i64 0, .int .i64 0] 56)).drew → (Instr.mapUpdate 49 (.map (some h.mb)) (.agg #[.int .i64 x, .int .i64 z]) (.pointer (some ⟨w1.heap.size, 0, none⟩))).run Try.prog o = .ok () w3) ∧
        Calls Try.prog 26 #[hv c, .iface 54 (pv w1.heap.size)] w3 fun e w4 => e = .returned (.tuple #[]) ∧ ∃ vb, (w4.cell? ⟨w1.heap.size, 2, none⟩ = some (.int .i64 vb) ∧ w4.frozen? ⟨w1.heap.size, 2, none⟩ = false) ∧
          Calls Try.prog 27 #[.pointer (some ⟨c, 0, none⟩), pv w1.heap.size] (w4.setCell ⟨w1.heap.size, 2, none⟩ (.int .i64 v)) fun e w' => e = .returned (.tuple #[]) ∧ Post (.returned (.tuple #[])) w') := by
      rintro n w1 rfl
      have H2 := H1.below (below_drewN _ n)
      generalize hw1 : (w.alloc (.cells #[.int .i64 x, .int .i64 z] 31)).drewN n = w1 at *
      have k1 : KeepT isP B w w1 := by rw [← hw1]; exact (KeepT.of_below hb0).trans (KeepT.of_below (below_drewN _ n))
      obtain ⟨w2, hw2⟩ : ∃ w2, w2 = (w1.alloc (.cells #[.int .i64 x, .int .i64 z, .int .i64 0, .int .i64 0, .int .i64 0] 56)).drew := ⟨_, rfl⟩
      have bel2 : Below w1.heap.size w1 w2 := by
        have := (Below.refl w1.heap.size w1).alloc (Nat.le_refl _) (.cells #[.int .i64 x, .int .i64 z, .int .i64 0, .int .i64 0, .int .i64 0] 56)
        rw [hw2]
        exact ⟨this.os, this.tape, this.output, this.size, this.block⟩
      have it2 : Item w2 w1.heap.size ⟨x, z, 0, 0⟩ 0 := by
        have := heap_alloc_new w1 (.cells #[.int .i64 x, .int .i64 z, .int .i64 0, .int .i64 0, .int .i64 0] 56)
        rw [hw2]
        exact this
      have mp2 : w2.ownsMap Try.prog 31 ptrElem h.mb 1000 Dm := ownsMap_same H2.cc.mp (bel2.block _ H2.cc.mp.lt)
      obtain ⟨w3, hrun, mp3, hg⟩ := mp2.update lawA Try.underlying49 (by decide) (keyA x z hx hz) (ptrElem_mk (some w1.heap.size))
      have hne : h.mb ≠ w1.heap.size := Nat.ne_of_lt H2.cc.mp.lt
      have it3 : Item w3 w1.heap.size ⟨x, z, 0, 0⟩ 0 := it2.same (hg.block _ it2.lt (fun e => hne (by simpa using e.symm)))
      refine ⟨w3, fun o ho => by rw [ho, ← hw2]; exact hrun, ?_⟩
      refine (H2.cc.pushNew hx hz hlk hln (Nat.le_refl _) (w3 := w3) (fun k hk hkm => ?_) ⟨hg.os.trans bel2.os, hg.tape.trans bel2.tape, hg.output.trans bel2.output, Nat.le_trans bel2.size hg.size⟩ it3 mp3).mono ?_
      · rw [hg.block k (Nat.lt_of_lt_of_le hk bel2.size) (fun e => hkm (by simpa using e))]
        exact bel2.block k hk
      · rintro e w4 ⟨rfl, av', cap', D', q', Dm', cc4, k4, hbI, hbq, ex, ez, hsame⟩
        have her : (I ++ [w1.heap.size]).erase w1.heap.size = I := by
          rw [List.erase_append_right _ hbI]
          simp
        have hE := cc4.putEnd (v := v) (most := most) (N := N) (l := l) (pn := false) H.mo H.us hN (by rw [List.length_append, List.length_singleton]; have := H.ln; omega) (b := w1.heap.size) (by simp) (by
            rw [her]
            refine H.srt.imp_of_mem (fun {a d} ha hd hlt => ?_)
            rw [(hsame a ha).1, (hsame d hd).1]
            exact hlt) (fun a ha hne => by
            rcases List.mem_append.1 ha with h5 | h5
            · rw [(hsame a h5).1]; exact H.top a h5
            · exact absurd (List.mem_singleton.1 h5) hne) (by rw [her, H.eq]; exact (map_same hsame).symm) ex ez (by simp [hbq])
        refine ⟨rfl, _, hE.1, hE.2.mono ?_⟩
        rintro e w' ⟨rfl, h1, h2⟩
        refine ⟨rfl, HP.out _ _ ⟨rfl, ?_, k1.trans (k4.trans h2)⟩⟩
        unfold putE
        rw [hfm, H.eq, rem_none hlk, ← H.eq]
        exact h1
    clear HP H H1 hfm hlk hb0 hln
    unfold pvo at hl
    unfold pv at *
    generalize h.mb = mb at *
    have hq := eq49 mb
    go_enter Try.func9, Try.ntmps9
    go_upto_region 1 with fail
    generalize w.alloc (.cells #[.int .i64 x, .int .i64 z] 31) = w0 at *
    go_wp2
    go_big_quiet (fail)
    obtain ⟨w3, hup, hcall⟩ := HU.out nq _ rfl
    have hup' := hup _ rfl
    clear HU hl hup
    have d2 : (w0.drewN nq).cell? ⟨c, 2, none⟩ = some (.map (some mb)) := c2
    have d0 : (w0.drewN nq).cell? ⟨w.heap.size, 0, none⟩ = some (.int .i64 x) := x0
    have d1 : (w0.drewN nq).cell? ⟨w.heap.size, 1, none⟩ = some (.int .i64 z) := x1
    clear c2 x0 x1
    generalize w0.drewN nq = w1 at *
    have e2 := cell_alloc d2 (.cells #[.int .i64 x, .int .i64 z, .int .i64 0, .int .i64 0, .int .i64 0] 56)
    have e0 := cell_alloc d0 (.cells #[.int .i64 x, .int .i64 z, .int .i64 0, .int .i64 0, .int .i64 0] 56)
    have e1 := cell_alloc d1 (.cells #[.int .i64 x, .int .i64 z, .int .i64 0, .int .i64 0, .int .i64 0] 56)
    generalize hnb : w1.heap.size = nb at *
    go_wp2
    generalize w1.alloc (.cells #[.int .i64 x, .int .i64 z, .int .i64 0, .int .i64 0, .int .i64 0] 56) = w2 at *
    go_region_with fail
    all_goals
      clear hup' d2 d0 d1 e2 e0 e1
      go_wp2_with fail
      refine hcall.mono ?_
      clear hcall
      rintro _ w4 ⟨rfl, vb, ⟨b2, bf2⟩, hu⟩
      go_wp2_with fail
      refine hu.mono ?_
      clear hu
      rintro _ w5 ⟨rfl, R⟩
      go_wp2
      go_end0
      exact R
end Go.Proofs.Ytpfhgkgkbefigaa
