/-
  The document's Do: a disk behind a group.
-/
import Derived.Test.YtjkeejbfipmidaaMay
import Derived.Test.YtjkeejbfipmidaaRwrite
import Derived.Test.YtjkeejbfipmidaaHeldn
set_option maxRecDepth 20000
namespace Go.Proofs.Ytjkeejbfipmidaa
open Go.RowKit

/-- The document's disk, grown within what is new. -/
def RGrown (F : Nat → Prop) (w0 : World) (w : World) (g : Nat) (S : St) : Prop := ∃ F', RDisk F' w g S ∧ (∀ k, F' k → F k ∨ (w0.heap.size ≤ k ∧ k < w.heap.size)) ∧ Chg F w0 w
theorem RGrown.start {F : Nat → Prop} {w : World} {g : Nat} {S : St} (h : RDisk F w g S) : RGrown F w w g S := ⟨F, h, fun _ h => Or.inl h, Chg.refl _ _⟩
theorem RGrown.below {F : Nat → Prop} {w0 w : World} {g : Nat} {S : St} (h : RGrown F w0 w g S) {W : World} (hF : ∀ k, F k → W.heap.size ≤ k) (hN : Below W.heap.size W w0) : Below W.heap.size W w := by
  obtain ⟨_, _, _, hC⟩ := h
  exact hN.trans (hC.below hF hN.size)
theorem RGrown.drew {F : Nat → Prop} {w0 w : World} {g : Nat} {S : St} (h : RGrown F w0 w g S) : RGrown F w0 w.drew g S := by
  obtain ⟨F', h1, h2, h3⟩ := h
  exact ⟨F', h1.keep (fun _ _ => rfl), h2, ⟨h3.os, h3.tape, h3.output, h3.size, h3.block⟩⟩
theorem rwrite_g (F : Nat → Prop) (g : Nat) (S : St) (f1 f2 f3 i : Int) (sa : Option Addr) (n sc : Nat) (bs : List Int) (w0 w : World) (hD : RGrown F w0 w g S) (hX : Bytes w sa n bs) (hlw : S.l.length < 1000000 ∧ S.writes < 1000000) (hn : n ≤ reachBytes) :
    Calls Try.prog 33 #[.pointer (some ⟨g, 0, none⟩), .agg #[.int .i64 f1, .int .i64 f2, .int .i64 f3], .int .i64 i, .slice sa n sc] w fun E w' => E = .returned (.int .i64 (S.write (f1, f2, f3) i bs).1) ∧ RGrown F w0 w' g (S.write (f1, f2, f3) i bs).2 := by
  obtain ⟨F', h1, h2, h3⟩ := hD
  refine (rwrite_c F' g S f1 f2 f3 i sa n sc bs w h1 hX hlw (by unfold reachBytes at hn; omega)).mono ?_
  rintro E w' ⟨rfl, h1', hC⟩
  have hs := hC.size
  have hs0 := h3.size
  refine ⟨rfl, _, h1', fun k hk => ?_, h3.trans hC (fun k hk => (h2 k hk).imp id (fun h => h.1))⟩
  rcases hk with h | h
  · rcases h2 k h with h | h
    · exact Or.inl h
    · exact Or.inr ⟨h.1, by omega⟩
  · exact Or.inr ⟨by omega, h.2⟩

set_option maxHeartbeats 4000000 in
theorem do_c (F : Nat → Prop) (g : Nat) (S : St) (a : Option Addr) (len cap : Nat) (l : List Pt) (W w : World) (hl : l.length = len) (hP : Puts W a l) (hN : Below W.heap.size W w) (hD : RDisk F w g S) (hF : ∀ k, F k → W.heap.size ≤ k) (hs : S.l.length + len < 1000000 ∧ S.writes + len < 1000000) :
    Calls Try.prog 16 #[.pointer (some ⟨g, 0, none⟩), .slice a len cap] w fun e w' => e = .returned (.tuple #[]) ∧ RGrown F w w' g (S.doAll (l.map Pt.bk)) := by
  obtain ⟨Post, hPost⟩ : ∃ Post : Ending → World → Prop, Post = fun e w' => e = .returned (.tuple #[]) ∧ RGrown F w w' g (S.doAll (l.map Pt.bk)) := ⟨_, rfl⟩
  rw [← hPost]
  have HP : Hid (∀ w', RGrown F w w' g (S.doAll (l.map Pt.bk)) → Post (.returned (.tuple #[])) w') := fun w' h => by rw [hPost]; exact ⟨rfl, h⟩
  clear hPost
  have Hl : Hid (l.length = len) := hl
  have HPs : Hid (Puts W a l) := hP
  have HG0 : Hid (RGrown F w w g S) := RGrown.start hD
  have HB : Hid (∀ w' S', RGrown F w w' g S' → Below W.heap.size W w') := fun w' S' h => h.below hF hN
  have Hs : Hid (S.l.length + len < 1000000 ∧ S.writes + len < 1000000) := hs
  have hlen : len < 1000000 := by omega
  clear hl hP hN hD hF hs
  go_enter Try.func16, Try.ntmps16
  go_wp2
  go_loopw [4] (fun v wr => ∃ (j : Nat), j ≤ len ∧ v = .int .i64 (j : Int) ∧ Hid (RGrown F w wr g (S.doAll ((l.map Pt.bk).take j)))) (fun v _ => len - (intOf v).toNat)
  case atStart => exact ⟨0, Nat.zero_le _, rfl, HG0.out⟩
  case round =>
    obtain ⟨j, hj, rfl, HG⟩ := hrel
    by_cases hlt : j < len
    · have hlt' : (j : Int) < len := by omega
      have hjl : j < l.length := by rw [Hl.out]; exact hlt
      obtain ⟨b, off, rfl, hO⟩ := HPs.out j hjl
      have Hnext : Hid (S.doAll ((l.map Pt.bk).take (j + 1)) = ((S.doAll ((l.map Pt.bk).take j)).write l[j].f l[j].i l[j].b).2) := by
        have := S.doAll_take (l.map Pt.bk) j (by rw [List.length_map]; exact hjl)
        rw [List.getElem_map] at this
        exact this
      generalize l[j] = o at hO Hnext
      obtain ⟨⟨f1, f2, f3⟩, oi, oa, on, oc, ob⟩ := o
      have HO : Hid (PutAt W b off j ⟨(f1, f2, f3), oi, oa, on, oc, ob⟩) := hO
      have Hfew : Hid ((S.doAll ((l.map Pt.bk).take j)).l.length < 1000000 ∧ (S.doAll ((l.map Pt.bk).take j)).writes < 1000000) := by
        have h1 := doAll_few S ((l.map Pt.bk).take j)
        have h2 := Hs.out
        have h3 : ((l.map Pt.bk).take j).length ≤ j := List.length_take_le _ _
        exact ⟨by omega, by omega⟩
      have HN : Hid (Below W.heap.size W wr) := HB.out _ _ HG.out
      clear hO hjl
      go_wp2
      refine region_L (fun w' => Below W.heap.size W w') 17 (by kernel_rfl) ?_
      have HGa : Hid (RGrown F w wr.drew g (S.doAll ((l.map Pt.bk).take j))) := HG.out.drew
      have HNa : Hid (Below W.heap.size W wr.drew) := HN.out.drew
      clear HN HG
      generalize wr.drew = va at *
      have hHeld : (fun w' => Below W.heap.size W w') _ := HNa.out
      have hne : Nonempty (Sub (fun w' => Below W.heap.size W w')) := ⟨⟨_, hHeld⟩⟩
      have k0 : ∀ s : Sub (fun w' => Below W.heap.size W w'), s.w.cell? ⟨b, off + j * 5, none⟩ = some (.int .i64 f1) := fun s => (HO.out.on s.ok).c0
      have k1 : ∀ s : Sub (fun w' => Below W.heap.size W w'), s.w.cell? ⟨b, off + j * 5 + 1, none⟩ = some (.int .i64 f2) := fun s => (HO.out.on s.ok).c1
      have k2 : ∀ s : Sub (fun w' => Below W.heap.size W w'), s.w.cell? ⟨b, off + j * 5 + 2, none⟩ = some (.int .i64 f3) := fun s => (HO.out.on s.ok).c2
      have k3 : ∀ s : Sub (fun w' => Below W.heap.size W w'), s.w.cell? ⟨b, off + j * 5 + 3, none⟩ = some (.int .i64 oi) := fun s => (HO.out.on s.ok).c3
      have k4 : ∀ s : Sub (fun w' => Below W.heap.size W w'), s.w.cell? ⟨b, off + j * 5 + 4, none⟩ = some (.slice oa on oc) := fun s => (HO.out.on s.ok).c4
      refine take_N (i := 0) rfl (by kernel_rfl) (by kernel_rfl) (by kernel_rfl) (by rfl) (fun _ _ _ _ h => h) (by exact hHeld) (fun K hK => ?_)
      go_simp
      refine hK _ ?_
      clear hK K
      refine take_N (i := 1) rfl (by kernel_rfl) (by kernel_rfl) (by kernel_rfl) (by rfl) (fun _ _ _ _ h => h) (by exact hHeld) (fun K hK => ?_)
      go_simp
      refine hK _ ?_
      clear hK K
      refine take_N (i := 2) rfl (by kernel_rfl) (by kernel_rfl) (by kernel_rfl) (by rfl) (fun _ _ _ _ h => h) (by exact hHeld) (fun K hK => ?_)
      go_simp
      refine hK _ ?_
      clear hK K
      refine take_N (i := 3) rfl (by kernel_rfl) (by kernel_rfl) (by kernel_rfl) (by rfl) (fun _ _ _ _ h => h) (by exact hHeld) (fun K hK => ?_)
      go_simp
      refine hK _ ?_
      clear hK K
      refine take_N (i := 4) rfl (by kernel_rfl) (by kernel_rfl) (by kernel_rfl) (by rfl) (fun _ _ _ _ h => h) (by exact hHeld) (fun K hK => ?_)
      go_simp
      refine hK _ ?_
      clear hK K
      refine take_N (i := 5) rfl (by kernel_rfl) (by kernel_rfl) (by kernel_rfl) (by rfl) (fun _ _ _ _ h => h) (by exact hHeld) (fun K hK => ?_)
      go_simp
      refine hK _ ?_
      clear hK K
      refine take_N (i := 6) rfl (by kernel_rfl) (by kernel_rfl) (by kernel_rfl) (by rfl) (fun _ _ _ _ h => h) (by exact hHeld) (fun K hK => ?_)
      go_simp
      refine hK _ ?_
      clear hK K
      refine take_N (i := 7) rfl (by kernel_rfl) (by kernel_rfl) (by kernel_rfl) (by rfl) (fun _ _ _ _ h => h) (by exact hHeld) (fun K hK => ?_)
      go_simp
      refine hK _ ?_
      clear hK K
      refine take_N (i := 8) rfl (by kernel_rfl) (by kernel_rfl) (by kernel_rfl) (by rfl) (fun _ _ _ _ h => h) (by exact hHeld) (fun K hK => ?_)
      go_simp
      refine hK _ ?_
      clear hK K
      refine take_N (i := 9) rfl (by kernel_rfl) (by kernel_rfl) (by kernel_rfl) (by rfl) (fun _ _ _ _ h => h) (by exact hHeld) (fun K hK => ?_)
      go_simp
      refine hK _ ?_
      clear hK K
      refine take_N (i := 10) rfl (by kernel_rfl) (by kernel_rfl) (by kernel_rfl) (by rfl) (fun _ _ _ _ h => h) (by exact hHeld) (fun K hK => ?_)
      go_simp
      refine hK _ ?_
      clear hK K
      refine take_N (i := 11) rfl (by kernel_rfl) (by kernel_rfl) (by kernel_rfl) (by rfl) (fun _ _ _ _ h => h) (by exact hHeld) (fun K hK => ?_)
      go_simp
      refine hK _ ?_
      clear hK K
      refine take_N (i := 12) rfl (by kernel_rfl) (by kernel_rfl) (by kernel_rfl) (by rfl) (fun _ _ _ _ h => h) (by exact hHeld) (fun K hK => ?_)
      go_simp
      refine hK _ ?_
      clear hK K
      refine take_N (i := 13) rfl (by kernel_rfl) (by kernel_rfl) (by kernel_rfl) (by rfl) (fun _ _ _ _ h => h) (by exact hHeld) (fun K hK => ?_)
      go_simp
      refine hK _ ?_
      clear hK K
      refine take_N (i := 14) rfl (by kernel_rfl) (by kernel_rfl) (by kernel_rfl) (by rfl) (fun _ _ _ _ h => h) (by exact hHeld) (fun K hK => ?_)
      go_simp
      refine hK _ ?_
      clear hK K
      refine take_N (i := 15) rfl (by kernel_rfl) (by kernel_rfl) (by kernel_rfl) (by rfl) (fun _ _ _ _ h => h) (by exact hHeld) (fun K hK => ?_)
      go_simp
      refine hK _ ?_
      clear hK K
      refine one_L (i := 16) (by kernel_rfl) rfl (fun K hK => ?_)
      go_simp
      refine (rwrite_g F g _ f1 f2 f3 oi oa on oc ob w va HGa.out (HO.out.on HNa.out).by_ Hfew.out HO.out.sz).mono ?_
      rintro _ w4 ⟨rfl, hG⟩
      have HG : Hid (RGrown F w w4 g (S.doAll ((l.map Pt.bk).take (j + 1)))) := by rw [Hnext.out]; exact hG
      have HN : Hid (Below W.heap.size W w4) := HB.out _ _ hG
      clear hG
      replace hHeld : (fun w' => Below W.heap.size W w') _ := HN.out
      refine hK.out _ _ (fun _ => hHeld) ?_
      clear hK K
      refine done_L (by kernel_rfl) ?_ _
      clear hHeld hne k0 k1 k2 k3 k4 HGa HNa
      go_wp2
      go_roundw
      case rel => exact ⟨j + 1, by omega, by go_num, HG.out⟩
      case measure => simp [intOf]; omega
    · obtain rfl : j = len := by omega
      have R := HP.out wr (by have := HG.out; rwa [List.take_of_length_le (by rw [List.length_map, Hl.out]; exact Nat.le_refl _)] at this)
      clear HP HG HPs HB
      go_wp2
      go_end0
      exact R
end Go.Proofs.Ytjkeejbfipmidaa
