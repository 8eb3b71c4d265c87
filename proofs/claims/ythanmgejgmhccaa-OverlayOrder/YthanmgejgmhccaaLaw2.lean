/-
  The laws' tells: an overlay tells what the document says.
-/
import Derived.Test.YthanmgejgmhccaaLaw1
set_option maxRecDepth 20000
namespace Go.Proofs.Ythanmgejgmhccaa
open C Go.RowKit Go.Shelf

theorem Both.on {B : Nat} {w w' : World} {o e g r a ac b bc : Nat} {E G : List Int} {d : Bool} (h : Both B w o e g r a ac b bc E G d) (hb : Below w.heap.size w w') : Both B w' o e g r a ac b bc E G d := ⟨h.o.on hb, h.r.on hb⟩
set_option maxHeartbeats 4000000 in
theorem tells_c {B : Nat} {w : World} {o e g r a ac b bc : Nat} {E G : List Int} {d : Bool} (h : Both B w o e g r a ac b bc E G d) : Calls Try.prog 9 #[.pointer (some ⟨o, 0, none⟩), .pointer (some ⟨r, 0, none⟩)] w fun q w' => q = .returned (.bool true) ∧ Below w.heap.size w w' := by
  obtain ⟨Post, hPost⟩ : ∃ Post : Ending → World → Prop, Post = fun q w' => q = .returned (.bool true) ∧ Below w.heap.size w w' := ⟨_, rfl⟩
  rw [← hPost]
  have HP : Hid (∀ w', Below w.heap.size w w' → Post (.returned (.bool true)) w') := fun w' h => by rw [hPost]; exact ⟨rfl, h⟩
  clear hPost
  have HB0 : Hid (Both B w o e g r a ac b bc E G d) := h
  clear h
  have hf := final_o HB0.out.o
  go_enter Try.func9, Try.ntmps9
  go_wp2_with fail
  refine hf.mono ?_
  clear hf
  rintro _ w1 ⟨x, fs, rfl, _, hX, hF, hb1⟩
  have HB1 : Hid (Both B w1 o e g r a ac b bc E G d) := HB0.out.on hb1
  have he := edits_c HB1.out.o
  go_wp2_with fail
  refine he.mono ?_
  clear he
  rintro _ w2 ⟨rfl, hE, hb2⟩
  have HB2 : Hid (Both B w2 o e g r a ac b bc E G d ∧ Blk w2 x 67 fs ∧ IsFin E G fs ∧ Blk w2 w1.heap.size 67 E ∧ Below w.heap.size w w2) := ⟨HB1.out.on hb2, hX.on hb2, hF, hE, hb1.trans (hb2.mono hb1.size)⟩
  clear HB0 HB1 hX hF hE hb1 hb2
  obtain ⟨y, hy⟩ : ∃ y, w1.heap.size = y := ⟨_, rfl⟩
  rw [hy] at HB2
  rw [hy]
  clear hy w1
  go_wp2_with fail
  obtain ⟨va, hva⟩ : ∃ va, w2.drew = va := ⟨_, rfl⟩
  refine region_L (Kq va []) 99 (by kernel_rfl) ?_
  have hd : Below w2.heap.size w2 va := by rw [← hva]; exact (Below.refl _ w2).drew
  rw [hva]
  clear hva
  have hHeld : Kq va [] va := Kq.nil (Below.refl _ _)
  have HB : Hid (Both B va o e g r a ac b bc E G d) := HB2.out.1.on hd
  have HX : Hid (Blk va x 67 fs ∧ IsFin E G fs ∧ Blk va y 67 E) := ⟨HB2.out.2.1.on hd, HB2.out.2.2.1, HB2.out.2.2.2.1.on hd⟩
  have HW : Hid (Below w.heap.size w va) := HB2.out.2.2.2.2.trans (hd.mono HB2.out.2.2.2.2.size)
  clear HB2 hd
  have HMISSFF : Hid (IsFin E G fs) := HX.out.2.1
  obtain ⟨Z_F, hZ⟩ : ∃ X, strOfNums fs = X := ⟨_, rfl⟩
  have Z_Fe : Hid (strOfNums fs = Z_F) := hZ
  clear hZ
  obtain ⟨Z_E, hZ⟩ : ∃ X, strOfNums E = X := ⟨_, rfl⟩
  have Z_Ee : Hid (strOfNums E = Z_E) := hZ
  clear hZ
  have hne : Nonempty (Sub (Kq va [])) := ⟨⟨_, hHeld⟩⟩
  have c1 : ∀ s : Sub (Kq va []), s.w.cell? ⟨r, 1, none⟩ = some (.slice (some ⟨b, 0, none⟩) 32768 bc) := fun s => (HB.out.r.on s.ok.b).c1
  have c2 : ∀ s : Sub (Kq va []), s.w.cell? ⟨r, 2, none⟩ = some (.bool d) := fun s => (HB.out.r.on s.ok.b).c2
  have ke : ∀ s : Sub (Kq va []), (convert 32 9 (.slice (some ⟨b, 0, none⟩) 32768 bc)).run Try.prog s.w = .ok (.string Z_E) s.w := fun s => pre_text (HB.out.r.on s.ok.b).eb HB.out.r.sp.el HB.out.r.sp.ek Z_Ee.out
  refine take_L (i := 0) rfl (by kernel_rfl) (by kernel_rfl) (by kernel_rfl) (by kernel_rfl) (fun _ _ _ _ h => h) (by exact hHeld) (fun K hK => ?_)
  go_simp
  refine hK _ ?_
  clear hK K
  refine take_L (i := 3) rfl (by kernel_rfl) (by kernel_rfl) (by kernel_rfl) (by kernel_rfl) (fun _ _ _ _ h => h) (by exact hHeld) (fun K hK => ?_)
  go_simp
  refine hK _ ?_
  clear hK K
  have hc := bytes_q hHeld (HX.out.1.on hHeld.b) HX.out.2.1.len HX.out.2.1.k
  refine one_L (i := 1) (by kernel_rfl) rfl (fun K hK => ?_)
  go_simp
  refine hc.mono ?_
  clear hc
  rintro _ u1 ⟨g1, rfl, hh⟩
  replace hHeld := hh
  clear hh
  refine hK.out _ _ (fun _ => kq_less _ hHeld) ?_
  clear hK K hne c1 c2 ke 
  refine wpAnyL_strong (S' := Kq va ((g1, fs) :: [])) kq_less _ _ _ _ ?_
  have hne : Nonempty (Sub (Kq va ((g1, fs) :: []))) := ⟨⟨_, hHeld⟩⟩
  have c1 : ∀ s : Sub (Kq va ((g1, fs) :: [])), s.w.cell? ⟨r, 1, none⟩ = some (.slice (some ⟨b, 0, none⟩) 32768 bc) := fun s => (HB.out.r.on s.ok.b).c1
  have c2 : ∀ s : Sub (Kq va ((g1, fs) :: [])), s.w.cell? ⟨r, 2, none⟩ = some (.bool d) := fun s => (HB.out.r.on s.ok.b).c2
  have ke : ∀ s : Sub (Kq va ((g1, fs) :: [])), (convert 32 9 (.slice (some ⟨b, 0, none⟩) 32768 bc)).run Try.prog s.w = .ok (.string Z_E) s.w := fun s => pre_text (HB.out.r.on s.ok.b).eb HB.out.r.sp.el HB.out.r.sp.ek Z_Ee.out
  have kt : ∀ s : Sub (Kq va ((g1, fs) :: [])), (convert 32 9 (.slice (some ⟨g1, 0, none⟩) 32768 32768)).run Try.prog s.w = .ok (.string Z_F) s.w := kq_text Z_Fe.out
  refine take_L (i := 2) rfl (by kernel_rfl) (by kernel_rfl) (by kernel_rfl) (by kernel_rfl) (fun _ _ _ _ h => h) (by exact hHeld) (fun K hK => ?_)
  go_simp
  refine hK _ ?_
  clear hK K
  have hc := rfin_q hHeld HB.out.r
  refine one_L (i := 4) (by kernel_rfl) rfl (fun K hK => ?_)
  go_simp
  refine hc.mono ?_
  clear hc
  rintro _ u2 ⟨g2, f2, rfl, hF2, hh⟩
  replace hHeld := hh
  clear hh
  rw [hF2.same HMISSFF.out] at hHeld
  clear hF2
  refine hK.out _ _ (fun _ => kq_less _ hHeld) ?_
  clear hK K hne c1 c2 ke kt
  refine wpAnyL_strong (S' := Kq va ((g2, fs) :: ((g1, fs) :: []))) kq_less _ _ _ _ ?_
  have hne : Nonempty (Sub (Kq va ((g2, fs) :: ((g1, fs) :: [])))) := ⟨⟨_, hHeld⟩⟩
  have c1 : ∀ s : Sub (Kq va ((g2, fs) :: ((g1, fs) :: []))), s.w.cell? ⟨r, 1, none⟩ = some (.slice (some ⟨b, 0, none⟩) 32768 bc) := fun s => (HB.out.r.on s.ok.b).c1
  have c2 : ∀ s : Sub (Kq va ((g2, fs) :: ((g1, fs) :: []))), s.w.cell? ⟨r, 2, none⟩ = some (.bool d) := fun s => (HB.out.r.on s.ok.b).c2
  have ke : ∀ s : Sub (Kq va ((g2, fs) :: ((g1, fs) :: []))), (convert 32 9 (.slice (some ⟨b, 0, none⟩) 32768 bc)).run Try.prog s.w = .ok (.string Z_E) s.w := fun s => pre_text (HB.out.r.on s.ok.b).eb HB.out.r.sp.el HB.out.r.sp.ek Z_Ee.out
  have kt : ∀ s : Sub (Kq va ((g2, fs) :: ((g1, fs) :: []))), (convert 32 9 (.slice (some ⟨g2, 0, none⟩) 32768 32768)).run Try.prog s.w = .ok (.string Z_F) s.w := kq_text Z_Fe.out
  refine take_L (i := 5) rfl (by kernel_rfl) (by kernel_rfl) (by kernel_rfl) (by kernel_rfl) (fun _ _ _ _ h => h) (by exact hHeld) (fun K hK => ?_)
  go_simp
  refine hK _ ?_
  clear hK K
  refine take_L (i := 6) rfl (by kernel_rfl) (by kernel_rfl) (by kernel_rfl) (by kernel_rfl) (fun _ _ _ _ h => h) (by exact hHeld) (fun K hK => ?_)
  go_simp
  refine hK _ ?_
  clear hK K
  refine take_L (i := 7) rfl (by kernel_rfl) (by kernel_rfl) (by kernel_rfl) (by kernel_rfl) (fun _ _ _ _ h => h) (by exact hHeld) (fun K hK => ?_)
  go_simp
  refine hK _ ?_
  clear hK K
  refine take_L (i := 8) rfl (by kernel_rfl) (by kernel_rfl) (by kernel_rfl) (by kernel_rfl) (fun _ _ _ _ h => h) (by exact hHeld) (fun K hK => ?_)
  go_simp
  refine hK _ ?_
  clear hK K
  refine take_L (i := 11) rfl (by kernel_rfl) (by kernel_rfl) (by kernel_rfl) (by kernel_rfl) (fun _ _ _ _ h => h) (by exact hHeld) (fun K hK => ?_)
  go_simp
  refine hK _ ?_
  clear hK K
  refine take_L (i := 12) rfl (by kernel_rfl) (by kernel_rfl) (by kernel_rfl) (by kernel_rfl) (fun _ _ _ _ h => h) (by exact hHeld) (fun K hK => ?_)
  go_simp
  refine hK _ ?_
  clear hK K
  refine take_L (i := 13) rfl (by kernel_rfl) (by kernel_rfl) (by kernel_rfl) (by kernel_rfl) (fun _ _ _ _ h => h) (by exact hHeld) (fun K hK => ?_)
  go_simp
  refine hK _ ?_
  clear hK K
  refine take_L (i := 14) rfl (by kernel_rfl) (by kernel_rfl) (by kernel_rfl) (by kernel_rfl) (fun _ _ _ _ h => h) (by exact hHeld) (fun K hK => ?_)
  go_simp
  refine hK _ ?_
  clear hK K
  refine take_L (i := 15) rfl (by kernel_rfl) (by kernel_rfl) (by kernel_rfl) (by kernel_rfl) (fun _ _ _ _ h => h) (by exact hHeld) (fun K hK => ?_)
  go_simp
  refine hK _ ?_
  clear hK K
  have hc := bytes_q hHeld (HX.out.2.2.on hHeld.b) HB.out.o.sp.el HB.out.o.sp.ek
  refine one_L (i := 9) (by kernel_rfl) rfl (fun K hK => ?_)
  go_simp
  refine hc.mono ?_
  clear hc
  rintro _ u3 ⟨g3, rfl, hh⟩
  replace hHeld := hh
  clear hh
  refine hK.out _ _ (fun _ => kq_less _ hHeld) ?_
  clear hK K hne c1 c2 ke kt
  refine wpAnyL_strong (S' := Kq va ((g3, E) :: ((g2, fs) :: ((g1, fs) :: [])))) kq_less _ _ _ _ ?_
  have hne : Nonempty (Sub (Kq va ((g3, E) :: ((g2, fs) :: ((g1, fs) :: []))))) := ⟨⟨_, hHeld⟩⟩
  have c1 : ∀ s : Sub (Kq va ((g3, E) :: ((g2, fs) :: ((g1, fs) :: [])))), s.w.cell? ⟨r, 1, none⟩ = some (.slice (some ⟨b, 0, none⟩) 32768 bc) := fun s => (HB.out.r.on s.ok.b).c1
  have c2 : ∀ s : Sub (Kq va ((g3, E) :: ((g2, fs) :: ((g1, fs) :: [])))), s.w.cell? ⟨r, 2, none⟩ = some (.bool d) := fun s => (HB.out.r.on s.ok.b).c2
  have ke : ∀ s : Sub (Kq va ((g3, E) :: ((g2, fs) :: ((g1, fs) :: [])))), (convert 32 9 (.slice (some ⟨b, 0, none⟩) 32768 bc)).run Try.prog s.w = .ok (.string Z_E) s.w := fun s => pre_text (HB.out.r.on s.ok.b).eb HB.out.r.sp.el HB.out.r.sp.ek Z_Ee.out
  have kt : ∀ s : Sub (Kq va ((g3, E) :: ((g2, fs) :: ((g1, fs) :: [])))), (convert 32 9 (.slice (some ⟨g3, 0, none⟩) 32768 32768)).run Try.prog s.w = .ok (.string Z_E) s.w := kq_text Z_Ee.out
  refine take_L (i := 10) rfl (by kernel_rfl) (by kernel_rfl) (by kernel_rfl) (by kernel_rfl) (fun _ _ _ _ h => h) (by exact hHeld) (fun K hK => ?_)
  go_simp
  refine hK _ ?_
  clear hK K
  refine take_L (i := 16) rfl (by kernel_rfl) (by kernel_rfl) (by kernel_rfl) (by kernel_rfl) (fun _ _ _ _ h => h) (by exact hHeld) (fun K hK => ?_)
  go_simp
  refine hK _ ?_
  clear hK K
  refine take_L (i := 17) rfl (by kernel_rfl) (by kernel_rfl) (by kernel_rfl) (by kernel_rfl) (fun _ _ _ _ h => h) (by exact hHeld) (fun K hK => ?_)
  go_simp
  refine hK _ ?_
  clear hK K
  refine take_L (i := 18) rfl (by kernel_rfl) (by kernel_rfl) (by kernel_rfl) (by kernel_rfl) (fun _ _ _ _ h => h) (by exact hHeld) (fun K hK => ?_)
  go_simp
  refine hK _ ?_
  clear hK K
  refine take_L (i := 19) rfl (by kernel_rfl) (by kernel_rfl) (by kernel_rfl) (by kernel_rfl) (fun _ _ _ _ h => h) (by exact hHeld) (fun K hK => ?_)
  go_simp
  refine hK _ ?_
  clear hK K
  refine take_L (i := 21) rfl (by kernel_rfl) (by kernel_rfl) (by kernel_rfl) (by kernel_rfl) (fun _ _ _ _ h => h) (by exact hHeld) (fun K hK => ?_)
  go_simp
  refine hK _ ?_
  clear hK K
  have hc := many_q hHeld HB.out.o
  refine one_L (i := 20) (by kernel_rfl) rfl (fun K hK => ?_)
  go_simp
  refine hc.mono ?_
  clear hc
  rintro _ u4 ⟨rfl, hh⟩
  replace hHeld := hh
  clear hh
  refine hK.out _ _ (fun _ => hHeld) ?_
  clear hK K
  have hc := rmany_q hHeld HB.out.r
  refine one_L (i := 22) (by kernel_rfl) rfl (fun K hK => ?_)
  go_simp
  refine hc.mono ?_
  clear hc
  rintro _ u5 ⟨rfl, hh⟩
  replace hHeld := hh
  clear hh
  refine hK.out _ _ (fun _ => hHeld) ?_
  clear hK K
  refine take_L (i := 23) rfl (by kernel_rfl) (by kernel_rfl) (by kernel_rfl) (by kernel_rfl) (fun _ _ _ _ h => h) (by exact hHeld) (fun K hK => ?_)
  go_simp
  refine hK _ ?_
  clear hK K
  refine take_L (i := 24) rfl (by kernel_rfl) (by kernel_rfl) (by kernel_rfl) (by kernel_rfl) (fun _ _ _ _ h => h) (by exact hHeld) (fun K hK => ?_)
  go_simp
  refine hK _ ?_
  clear hK K
  refine take_L (i := 25) rfl (by kernel_rfl) (by kernel_rfl) (by kernel_rfl) (by kernel_rfl) (fun _ _ _ _ h => h) (by exact hHeld) (fun K hK => ?_)
  go_simp
  refine hK _ ?_
  clear hK K
  refine take_L (i := 26) rfl (by kernel_rfl) (by kernel_rfl) (by kernel_rfl) (by kernel_rfl) (fun _ _ _ _ h => h) (by exact hHeld) (fun K hK => ?_)
  go_simp
  refine hK _ ?_
  clear hK K
  refine take_L (i := 28) rfl (by kernel_rfl) (by kernel_rfl) (by kernel_rfl) (by kernel_rfl) (fun _ _ _ _ h => h) (by exact hHeld) (fun K hK => ?_)
  go_simp
  refine hK _ ?_
  clear hK K
  refine take_L (i := 29) rfl (by kernel_rfl) (by kernel_rfl) (by kernel_rfl) (by kernel_rfl) (fun _ _ _ _ h => h) (by exact hHeld) (fun K hK => ?_)
  go_simp
  refine hK _ ?_
  clear hK K
  refine take_L (i := 30) rfl (by kernel_rfl) (by kernel_rfl) (by kernel_rfl) (by kernel_rfl) (fun _ _ _ _ h => h) (by exact hHeld) (fun K hK => ?_)
  go_simp
  refine hK _ ?_
  clear hK K
  refine take_L (i := 31) rfl (by kernel_rfl) (by kernel_rfl) (by kernel_rfl) (by kernel_rfl) (fun _ _ _ _ h => h) (by exact hHeld) (fun K hK => ?_)
  go_simp
  refine hK _ ?_
  clear hK K
  have hc := dirty_q hHeld HB.out.o
  refine one_L (i := 27) (by kernel_rfl) rfl (fun K hK => ?_)
  go_simp
  refine hc.mono ?_
  clear hc
  rintro _ u6 ⟨rfl, hh⟩
  replace hHeld := hh
  clear hh
  refine hK.out _ _ (fun _ => hHeld) ?_
  clear hK K
  refine take_L (i := 32) rfl (by kernel_rfl) (by kernel_rfl) (by kernel_rfl) (by kernel_rfl) (fun _ _ _ _ h => h) (by exact hHeld) (fun K hK => ?_)
  go_simp
  refine hK _ ?_
  clear hK K
  refine take_L (i := 33) rfl (by kernel_rfl) (by kernel_rfl) (by kernel_rfl) (by kernel_rfl) (fun _ _ _ _ h => h) (by exact hHeld) (fun K hK => ?_)
  go_simp
  refine hK _ ?_
  clear hK K
  refine one_L (i := 34) (by kernel_rfl) rfl (fun K hK => ?_)
  go_simp
  refine hK.out _ _ (fun _ => hHeld) ?_
  clear hK K
  refine done_L (by kernel_rfl) ?_ _
  clear hne c1 c2 ke kt
  have R := HP.out _ (HW.out.trans (hHeld.b.mono HW.out.size))
  clear HB HX HW HMISSFF Z_Fe Z_Ee hHeld HP
  go_wp2
  exact R
end Go.Proofs.Ythanmgejgmhccaa
