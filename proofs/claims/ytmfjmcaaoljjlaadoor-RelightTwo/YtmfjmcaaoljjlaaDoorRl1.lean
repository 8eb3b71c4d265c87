/-
  The landed renew: what was darkened is made anew.
-/
import Derived.Test.YtmfjmcaaoljjlaaDoorRk4s
import Derived.Test.YtmfjmcaaoljjlaaDoorRk4l
import Derived.Test.YtmfjmcaaoljjlaaDoorRr3
set_option maxRecDepth 20000
namespace Go.Proofs.YtmfjmcaaoljjlaaDoor
open C Go.RowKit L

theorem darken_c (e : LE) (o : LO e) (ks0 ls0 : List Int) (c : Nat) (hC : Chg e ks0 c) (hl : LightOf (sys0 e o.bx ks0) e.n ls0) (w : World) (hM : LM e w) (hp : Pre w e.g 5 ls0) :
    Calls Tryd.prog 27 #[.pointer (some ⟨e.q, e.o, none⟩), .int .i64 (c : Int)] w fun x w' => ∃ d db dc, x = .returned (.slice (some ⟨db, 0, none⟩) d.length dc) ∧ DarkG e o w d db w' := by
  rcases hs : e.sky with _ | _
  · exact darken_lamp e o hs ks0 ls0 c hC hl w hM hp
  · exact darken_sky e o hs ks0 ls0 c hC hl w hM hp
theorem renew_c (e : LE) (o : LO e) (ks0 ls0 : List Int) (c : Nat) (hC : Chg e ks0 c) (hl : LightOf (sys0 e o.bx ks0) e.n ls0) (w : World) (hM : LM e w) (hp : Pre w e.g 5 ls0) :
    Calls Tryd.prog 22 #[.pointer (some ⟨e.q, e.o, none⟩), .int .i64 (c : Int)] w fun x w' => x = .returned (.tuple #[]) ∧ ∃ ls', LightOf (e.sys o.bx) e.n ls' ∧ Pre w' e.g 5 ls' ∧ w.grownBy w' (some e.g) := by
  obtain ⟨Post, hPost⟩ : ∃ Post : Ending → World → Prop, Post = fun x w' => x = .returned (.tuple #[]) ∧ ∃ ls', LightOf (e.sys o.bx) e.n ls' ∧ Pre w' e.g 5 ls' ∧ w.grownBy w' (some e.g) := ⟨_, rfl⟩
  rw [← hPost]
  have HP : Hid (∀ w' ls', LightOf (e.sys o.bx) e.n ls' → Pre w' e.g 5 ls' → w.grownBy w' (some e.g) → Post (.returned (.tuple #[])) w') := fun w' ls' h1 h2 h3 => by rw [hPost]; exact ⟨rfl, ls', h1, h2, h3⟩
  clear hPost
  have hd := darken_c e o ks0 ls0 c hC hl w hM hp
  have HM : Hid (LM e w ∧ LO e) := ⟨hM, o⟩
  clear hC hl hp hM
  go_enter Tryd.func22, Tryd.ntmps22
  go_wp2_with fail
  refine hd.mono ?_
  rintro _ w1 ⟨d, db, dc, rfl, hG⟩
  obtain ⟨ls1, hp1, hl1, hv1, hr1⟩ := hG.ls
  have hr := relight_c e o ls1 hl1 hv1 d hG.lt (by have := hG.len; have := o.nb; omega) hr1 db dc w1 (HM.out.1.grown o hG.gr) hp1 hG.dk
  have Hg : Hid (w.grownBy w1 (some e.g)) := hG.gr
  clear hd hG hp1 hl1 hv1 hr1
  go_wp2_with fail
  refine hr.mono ?_
  rintro _ w2 ⟨rfl, ls', h1, h2, h3⟩
  have R := HP.out w2 ls' h1 h2 ⟨h3.os.trans Hg.out.os, h3.tape.trans Hg.out.tape, h3.output.trans Hg.out.output, Nat.le_trans Hg.out.size h3.size, fun j hj hne => (h3.block j (Nat.lt_of_lt_of_le hj Hg.out.size) hne).trans (Hg.out.block j hj hne)⟩
  clear hr h1 h2 h3 HP Hg HM
  go_wp2
  exact bodyPost_end (results_none rfl _ _ _) rfl R
end Go.Proofs.YtmfjmcaaoljjlaaDoor
