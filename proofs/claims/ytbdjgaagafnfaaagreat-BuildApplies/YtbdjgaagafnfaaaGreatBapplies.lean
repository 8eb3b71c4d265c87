/-
  Walk of BuildApplies.
-/
import Derived.Test.YtbdjgaagafnfaaaGreatBframe
set_option maxRecDepth 20000
namespace Go.Proofs.YtbdjgaagafnfaaaGreat
open C Go.RowKit

set_option maxRecDepth 1000000 in
set_option maxHeartbeats 4000000 in
theorem buildApplies_walk (J : BSpec) (S : Nat) (cx cz : Int) (a : Option Addr) (n cap : Nat) (p : Option Addr) (ns cp : Nat) (l : List Spot) (w : World) (hS : S < 18446744073709551616) (hR : Runs w a n) (hP : SpotsAt w w.heap.size p ns l) (hns : ns ≤ 9223372036854775807) (hG : J.G w) :
    Calls Tryz.prog 3 #[.int .u64 S, .agg #[.int .i64 cx, .int .i64 cz], .slice a n cap, .slice p ns cp] w fun e w' => e = .returned (.bool true) ∧ Below w.heap.size w w' := by
  have HR : Hid (Runs w a n) := hR
  have HS : Hid (SpotsAt w w.heap.size p ns l) := hP
  clear hR hP
  have HG : Hid (J.G w) := hG
  clear hG
  obtain ⟨β, hβ⟩ := far_bool cx cz
  by_cases hf : Far 1073741824 cx ∧ Far 1073741824 cz
  case neg =>
    obtain rfl : β = true := by
      rcases β with _ | _
      · exact absurd (hβ.1 rfl) hf
      · rfl
    have Hfar : Hid (∀ w1, Calls Tryz.prog 6 #[.agg #[.int .i64 cx, .int .i64 cz]] w1 fun e w' => e = .returned (.bool true) ∧ Below w1.heap.size w1 w') := fun w1 => far_c cx cz _ w1 hβ
    clear hβ hf
    go_enter Tryz.func3, Tryz.ntmps3
    go_wp2_with fail
    refine (awake_c J _ (J.on HG.out (Bx.start w cx cz).bel)).mono ?_
    rintro _ w1 ⟨rfl, hw1⟩
    have HB1 : Hid (Bx w cx cz w1) := (Bx.start w cx cz).on hw1
    have k0 := HB1.out.k0
    have k1 := HB1.out.k1
    clear hw1
    have hfar := Hfar.out w1
    go_wp2_with fail
    refine hfar.mono ?_
    clear hfar k0 k1
    rintro _ w2 ⟨rfl, hb2⟩
    have HB2 : Hid (Bx w cx cz w2) := HB1.out.on hb2
    clear hb2 HB1
    go_wp2
    go_ret
    exact ⟨rfl, HB2.out.bel⟩
  obtain rfl : β = false := hβ.2 hf
  have Hfar : Hid (∀ w1, Calls Tryz.prog 6 #[.agg #[.int .i64 cx, .int .i64 cz]] w1 fun e w' => e = .returned (.bool false) ∧ Below w1.heap.size w1 w') := fun w1 => far_c cx cz _ w1 hβ
  clear hβ
  by_cases c4 : 1000 < n
  case pos =>
    have c4' : (1000 : Int) < (n : Int) := by omega
    go_enter Tryz.func3, Tryz.ntmps3
    go_wp2_with fail
    refine (awake_c J _ (J.on HG.out (Bx.start w cx cz).bel)).mono ?_
    rintro _ w1 ⟨rfl, hw1⟩
    have HB1 : Hid (Bx w cx cz w1) := (Bx.start w cx cz).on hw1
    have k0 := HB1.out.k0
    have k1 := HB1.out.k1
    clear hw1
    have hfar := Hfar.out w1
    go_wp2_with fail
    refine hfar.mono ?_
    clear hfar k0 k1
    rintro _ w2 ⟨rfl, hb2⟩
    have HB2 : Hid (Bx w cx cz w2) := HB1.out.on hb2
    clear hb2 HB1
    go_wp2
    go_ret
    exact ⟨rfl, HB2.out.bel⟩
  have hn1 : n ≤ 1000 := by omega
  have c4' : ¬ (1000 : Int) < (n : Int) := by omega
  go_enter Tryz.func3, Tryz.ntmps3
  go_wp2_with fail
  refine (awake_c J _ (J.on HG.out (Bx.start w cx cz).bel)).mono ?_
  rintro _ w1 ⟨rfl, hw1⟩
  have HB1 : Hid (Bx w cx cz w1) := (Bx.start w cx cz).on hw1
  have k0 := HB1.out.k0
  have k1 := HB1.out.k1
  clear hw1
  have hfar := Hfar.out w1
  go_wp2_with fail
  refine hfar.mono ?_
  clear hfar k0 k1
  rintro _ w2 ⟨rfl, hb2⟩
  have HB2 : Hid (Bx w cx cz w2) := HB1.out.on hb2
  have hcl := cells_c a n cap none 0 0 w2 (HR.out.on HB2.out.bel) (fun k hk => by omega) hn1 (by omega)
  clear hb2 HB1
  go_wp2_with fail
  refine hcl.mono ?_
  clear hcl c4 c4'
  rintro _ w3 ⟨rfl, cs, hC3, hl, hk, hb3⟩
  have HB3 : Hid (Bx w cx cz w3) := HB2.out.on hb3
  have HC : Hid (cs.length = 32768 ∧ Kinds cs) := ⟨hl, hk⟩
  have HC3 : Hid (Blk w3 w2.heap.size 5 cs) := hC3
  clear hb3 hC3 hl hk HB2
  generalize w2.heap.size = bg at *
  have k0 := HB3.out.k0
  have k1 := HB3.out.k1
  have hla := land_c S cx cz p ns cp l w3 hS hf.1 hf.2 ((HS.out.on HB3.out.bel).up HB3.out.bel.size) hns
  have HoH : Hid (okG 128 (chg 128 (·.h) (groundH S cx cz) l (min ns 3000)) ∧ okG 4 (chg 4 (·.b) (groundB S cx cz) l (min ns 3000))) := ⟨chg_ok (by omega) (groundH_ok _ _ _) _, chg_ok (by omega) (groundB_ok _ _ _) _⟩
  generalize chg 128 (·.h) (groundH S cx cz) l (min ns 3000) = hs at *
  generalize chg 4 (·.b) (groundB S cx cz) l (min ns 3000) = bs at *
  go_wp2_with fail
  refine hla.mono ?_
  clear hla k0 k1
  rintro _ w4 ⟨hb4, b1, cp1, g1, c1, b2, cp2, g2, c2, rfl, hL1, hL2, _⟩
  have HB4 : Hid (Bx w cx cz w4) := HB3.out.on hb4
  have hC4 : Blk w4 bg 5 cs := HC3.out.below hb4 HC3.out.lt
  have HC4 : Hid (Blk w4 bg 5 cs ∧ L9 w4 b1 g1 c1 hs ∧ L9 w4 b2 g2 c2 bs) := ⟨hC4, hL1, hL2⟩
  have hfr := from_c (some ⟨bg, 0, none⟩) 32768 32768 cs w4 (Blk.src2 hC4 HC.out.1 HC.out.2) (by omega)
  have hmay := kinds_may HC.out.2 HC.out.1
  clear hb4 hL1 hL2 HB3 HC3 hC4
  go_wp2_with fail
  refine hfr.mono ?_
  clear hfr
  rintro _ w5 ⟨hb5, h5⟩
  rcases h5 with ⟨_, rfl, hX5⟩ | ⟨hno, _⟩
  case inr => exact absurd hmay hno
  have HB5 : Hid (Bx w cx cz w5) := HB4.out.on hb5
  have HC5 : Hid (Blk w5 bg 5 cs ∧ L9 w5 b1 g1 c1 hs ∧ L9 w5 b2 g2 c2 bs ∧ Blk w5 w4.heap.size 58 cs) := ⟨HC4.out.1.below hb5 HC4.out.1.lt, HC4.out.2.1.on hb5, HC4.out.2.2.on hb5, hX5⟩
  clear hb5 HB4 HC4 hX5 hmay
  generalize w4.heap.size = xg at *
  have k0 := HB5.out.k0
  have k1 := HB5.out.k1
  have hap := J.apply_ S cx cz xg cs (some ⟨b1, 0, none⟩) (some ⟨b2, 0, none⟩) cp1 cp2 hs bs w5 hS (far_up hf.1) (far_up hf.2) HC5.out.2.2.2 HC.out.1 HC.out.2 HC5.out.2.1.rows HC5.out.2.2.1.rows HoH.out.1 HoH.out.2 (J.on HG.out HB5.out.bel)
  go_wp2_with fail
  refine hap.mono ?_
  clear hap k0 k1
  rintro _ w6 ⟨hb6, yg, rfl, hY6⟩
  have HB6 : Hid (Bx w cx cz w6) := HB5.out.on hb6
  have HC6 : Hid (Blk w6 bg 5 cs ∧ L9 w6 b1 g1 c1 hs ∧ L9 w6 b2 g2 c2 bs ∧ Blk w6 xg 58 cs ∧ Blk w6 yg 58 (buildN S cx cz hs bs cs)) := ⟨HC5.out.1.below hb6 HC5.out.1.lt, HC5.out.2.1.on hb6, HC5.out.2.2.1.on hb6, HC5.out.2.2.2.below hb6 HC5.out.2.2.2.lt, hY6⟩
  clear hb6 hY6 HB5 HC5
  have k0 := HB6.out.k0
  have k1 := HB6.out.k1
  have hra := rapply_c S cx cz bg 32768 cs (some ⟨b1, 0, none⟩) (some ⟨b2, 0, none⟩) cp1 cp2 hs bs w6 hS (far_pair hf.1) (far_pair hf.2) (Blk.pre HC6.out.1) HC.out.1 HC.out.2 HC6.out.2.1.rows HC6.out.2.2.1.rows HoH.out.1 HoH.out.2
  go_wp2_with fail
  refine hra.mono ?_
  clear hra k0 k1
  rintro _ w7 ⟨hb7, og, oc, rfl, hO7⟩
  have HB7 : Hid (Below w.heap.size w w7) := (HB6.out.on hb7).bel
  have HF : Hid ((buildN S cx cz hs bs cs).length = 32768 ∧ Kinds (buildN S cx cz hs bs cs)) := ⟨buildN_len _ _ _ _ _ _, build_kinds HC.out.2⟩
  have HC7 : Hid (Blk w7 bg 5 cs ∧ Blk w7 xg 58 cs ∧ Blk w7 yg 58 (buildN S cx cz hs bs cs) ∧ Pre w7 og 5 (buildN S cx cz hs bs cs)) := ⟨HC6.out.1.below hb7 HC6.out.1.lt, HC6.out.2.2.2.1.below hb7 HC6.out.2.2.2.1.lt, HC6.out.2.2.2.2.below hb7 HC6.out.2.2.2.2.lt, hO7⟩
  clear hb7 hO7 HB6 HC6 HoH
  generalize buildN S cx cz hs bs cs = F at *
  obtain ⟨XF, hXF⟩ : ∃ X, X = strOfNums F := ⟨_, rfl⟩
  have HXF : Hid (XF = strOfNums F) := hXF
  obtain ⟨XC, hXC⟩ : ∃ X, X = strOfNums cs := ⟨_, rfl⟩
  have HXC : Hid (XC = strOfNums cs) := hXC
  clear hXF hXC
  go_wp2_with fail
  refine region_L (fun w' => Below w7.heap.size w7 w') 24 (by kernel_rfl) ?_
  have hHeld : Below w7.heap.size w7 w7.drew := (Below.refl _ _).drew
  generalize w7.drew = va at *
  have hne : Nonempty (Sub (fun w' => Below w7.heap.size w7 w')) := ⟨⟨_, hHeld⟩⟩
  have v7 : ∀ s : Sub (fun w' => Below w7.heap.size w7 w'), (convert 29 9 (.slice (some ⟨og, 0, none⟩) 32768 oc)).run Tryz.prog s.w = .ok (.string XF) s.w := fun s => by rw [HXF.out]; exact Pre.conv (HC7.out.2.2.2.below s.ok HC7.out.2.2.2.lt) HF.out.1 HF.out.2
  refine take_L (i := 0) rfl (by kernel_rfl) (by kernel_rfl) (by kernel_rfl) (by kernel_rfl) (fun _ _ _ _ h => h) (by exact hHeld) (fun K hK => ?_)
  go_simp
  refine hK _ ?_
  clear hK K
  refine take_L (i := 1) rfl (by kernel_rfl) (by kernel_rfl) (by kernel_rfl) (by kernel_rfl) (fun _ _ _ _ h => h) (by exact hHeld) (fun K hK => ?_)
  go_simp
  refine hK _ ?_
  clear hK K
  refine take_L (i := 2) rfl (by kernel_rfl) (by kernel_rfl) (by kernel_rfl) (by kernel_rfl) (fun _ _ _ _ h => h) (by exact hHeld) (fun K hK => ?_)
  go_simp
  refine hK _ ?_
  clear hK K
  refine take_L (i := 3) rfl (by kernel_rfl) (by kernel_rfl) (by kernel_rfl) (by kernel_rfl) (fun _ _ _ _ h => h) (by exact hHeld) (fun K hK => ?_)
  go_simp
  refine hK _ ?_
  clear hK K
  refine take_L (i := 4) rfl (by kernel_rfl) (by kernel_rfl) (by kernel_rfl) (by kernel_rfl) (fun _ _ _ _ h => h) (by exact hHeld) (fun K hK => ?_)
  go_simp
  refine hK _ ?_
  clear hK K
  refine take_L (i := 5) rfl (by kernel_rfl) (by kernel_rfl) (by kernel_rfl) (by kernel_rfl) (fun _ _ _ _ h => h) (by exact hHeld) (fun K hK => ?_)
  go_simp
  refine hK _ ?_
  clear hK K
  refine take_L (i := 6) rfl (by kernel_rfl) (by kernel_rfl) (by kernel_rfl) (by kernel_rfl) (fun _ _ _ _ h => h) (by exact hHeld) (fun K hK => ?_)
  go_simp
  refine hK _ ?_
  clear hK K
  refine take_L (i := 7) rfl (by kernel_rfl) (by kernel_rfl) (by kernel_rfl) (by kernel_rfl) (fun _ _ _ _ h => h) (by exact hHeld) (fun K hK => ?_)
  go_simp
  refine hK _ ?_
  clear hK K
  refine take_L (i := 8) rfl (by kernel_rfl) (by kernel_rfl) (by kernel_rfl) (by kernel_rfl) (fun _ _ _ _ h => h) (by exact hHeld) (fun K hK => ?_)
  go_simp
  refine hK _ ?_
  clear hK K
  refine take_L (i := 11) rfl (by kernel_rfl) (by kernel_rfl) (by kernel_rfl) (by kernel_rfl) (fun _ _ _ _ h => h) (by exact hHeld) (fun K hK => ?_)
  go_simp
  refine hK _ ?_
  clear hK K
  refine take_L (i := 12) rfl (by kernel_rfl) (by kernel_rfl) (by kernel_rfl) (by kernel_rfl) (fun _ _ _ _ h => h) (by exact hHeld) (fun K hK => ?_)
  go_simp
  refine hK _ ?_
  clear hK K
  clear v7 hne
  refine one_L (i := 9) (by kernel_rfl) rfl (fun K hK => ?_)
  go_simp
  refine (bytes_c yg F va (HC7.out.2.2.1.below hHeld HC7.out.2.2.1.lt) HF.out.1).mono ?_
  rintro _ w8 ⟨rfl, hB8, hb8⟩
  replace hHeld : Below w7.heap.size w7 w8 := hHeld.trans (hb8.mono hHeld.size)
  refine hK.out _ _ (fun _ => hHeld) ?_
  clear hK K hb8
  generalize va.heap.size = g8 at *
  refine wpAnyL_strong (S' := fun w' => Below w8.heap.size w8 w') (fun w' h => hHeld.trans (h.mono hHeld.size)) _ _ _ _ ?_
  have HH8 : Hid (Below w7.heap.size w7 w8) := hHeld
  replace hHeld : Below w8.heap.size w8 w8 := Below.refl _ _
  have hne : Nonempty (Sub (fun w' => Below w8.heap.size w8 w')) := ⟨⟨_, hHeld⟩⟩
  have v8 : ∀ s : Sub (fun w' => Below w8.heap.size w8 w'), (convert 29 9 (.slice (some ⟨g8, 0, none⟩) 32768 32768)).run Tryz.prog s.w = .ok (.string XF) s.w := fun s => by rw [HXF.out]; exact Blk.conv2 (hB8.below s.ok hB8.lt) HF.out.1 HF.out.2
  have v9 : ∀ s : Sub (fun w' => Below w8.heap.size w8 w'), (convert 29 9 (.slice (some ⟨bg, 0, none⟩) 32768 32768)).run Tryz.prog s.w = .ok (.string XC) s.w := fun s => by
    rw [HXC.out]
    have hb : Blk w8 bg 5 cs := HC7.out.1.below HH8.out HC7.out.1.lt
    exact Blk.conv2 (hb.below s.ok hb.lt) HC.out.1 HC.out.2
  refine take_L (i := 10) rfl (by kernel_rfl) (by kernel_rfl) (by kernel_rfl) (by kernel_rfl) (fun _ _ _ _ h => h) (by exact hHeld) (fun K hK => ?_)
  go_simp
  refine hK _ ?_
  clear hK K
  refine take_L (i := 13) rfl (by kernel_rfl) (by kernel_rfl) (by kernel_rfl) (by kernel_rfl) (fun _ _ _ _ h => h) (by exact hHeld) (fun K hK => ?_)
  go_simp
  refine hK _ ?_
  clear hK K
  refine take_L (i := 14) rfl (by kernel_rfl) (by kernel_rfl) (by kernel_rfl) (by kernel_rfl) (fun _ _ _ _ h => h) (by exact hHeld) (fun K hK => ?_)
  go_simp
  refine hK _ ?_
  clear hK K
  refine take_L (i := 15) rfl (by kernel_rfl) (by kernel_rfl) (by kernel_rfl) (by kernel_rfl) (fun _ _ _ _ h => h) (by exact hHeld) (fun K hK => ?_)
  go_simp
  refine hK _ ?_
  clear hK K
  refine take_L (i := 16) rfl (by kernel_rfl) (by kernel_rfl) (by kernel_rfl) (by kernel_rfl) (fun _ _ _ _ h => h) (by exact hHeld) (fun K hK => ?_)
  go_simp
  refine hK _ ?_
  clear hK K
  refine take_L (i := 19) rfl (by kernel_rfl) (by kernel_rfl) (by kernel_rfl) (by kernel_rfl) (fun _ _ _ _ h => h) (by exact hHeld) (fun K hK => ?_)
  go_simp
  refine hK _ ?_
  clear hK K
  refine take_L (i := 20) rfl (by kernel_rfl) (by kernel_rfl) (by kernel_rfl) (by kernel_rfl) (fun _ _ _ _ h => h) (by exact hHeld) (fun K hK => ?_)
  go_simp
  refine hK _ ?_
  clear hK K
  clear v8 v9 hne
  refine one_L (i := 17) (by kernel_rfl) rfl (fun K hK => ?_)
  go_simp
  refine (bytes_c xg cs w8 (HC7.out.2.1.below HH8.out HC7.out.2.1.lt) HC.out.1).mono ?_
  rintro _ w9 ⟨rfl, hB9, hb9⟩
  refine hK.out _ _ (fun _ => hb9) ?_
  clear hK K
  refine wpAnyL_strong (S' := fun w' => Below w9.heap.size w9 w') (fun w' h => hb9.trans (h.mono hb9.size)) _ _ _ _ ?_
  have HH9 : Hid (Below w7.heap.size w7 w9) := HH8.out.trans (hb9.mono HH8.out.size)
  generalize w8.heap.size = g9 at *
  replace hHeld : Below w9.heap.size w9 w9 := Below.refl _ _
  have hne : Nonempty (Sub (fun w' => Below w9.heap.size w9 w')) := ⟨⟨_, hHeld⟩⟩
  have v9 : ∀ s : Sub (fun w' => Below w9.heap.size w9 w'), (convert 29 9 (.slice (some ⟨g9, 0, none⟩) 32768 32768)).run Tryz.prog s.w = .ok (.string XC) s.w := fun s => by rw [HXC.out]; exact Blk.conv2 (hB9.below s.ok hB9.lt) HC.out.1 HC.out.2
  clear hB9 hb9
  refine take_L (i := 18) rfl (by kernel_rfl) (by kernel_rfl) (by kernel_rfl) (by kernel_rfl) (fun _ _ _ _ h => h) (by exact hHeld) (fun K hK => ?_)
  go_simp
  refine hK _ ?_
  clear hK K
  refine take_L (i := 21) rfl (by kernel_rfl) (by kernel_rfl) (by kernel_rfl) (by kernel_rfl) (fun _ _ _ _ h => h) (by exact hHeld) (fun K hK => ?_)
  go_simp
  refine hK _ ?_
  clear hK K
  refine take_L (i := 22) rfl (by kernel_rfl) (by kernel_rfl) (by kernel_rfl) (by kernel_rfl) (fun _ _ _ _ h => h) (by exact hHeld) (fun K hK => ?_)
  go_simp
  refine hK _ ?_
  clear hK K
  refine take_L (i := 23) rfl (by kernel_rfl) (by kernel_rfl) (by kernel_rfl) (by kernel_rfl) (fun _ _ _ _ h => h) (by exact hHeld) (fun K hK => ?_)
  go_simp
  refine hK _ ?_
  clear hK K
  refine done_L (by kernel_rfl) ?_ _
  have R := HB7.out.trans (HH9.out.mono HB7.out.size)
  clear v9 hne hHeld
  go_wp2
  go_ret
  exact ⟨rfl, R⟩
end Go.Proofs.YtbdjgaagafnfaaaGreat