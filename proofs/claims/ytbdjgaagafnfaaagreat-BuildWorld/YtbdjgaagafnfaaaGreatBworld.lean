/-
  Walk of BuildWorld.
-/
import Derived.Test.YtbdjgaagafnfaaaGreatBframe
set_option maxRecDepth 20000
namespace Go.Proofs.YtbdjgaagafnfaaaGreat
open C Go.RowKit

theorem ok_cols {hs bs : List (List Int)} (h : okG 128 hs) (k : okG 4 bs) {i : Nat} (hi : i < 9) : okCols (hs.getD i []) (bs.getD i []) := ⟨(h.2 i hi).1, (k.2 i hi).1, fun j hj => by
  have := (h.2 i hi).2 j hj
  have := (k.2 i hi).2 j hj
  omega⟩
theorem no_spots (w : World) (B : Nat) : SpotsAt w B none 0 [] := ⟨rfl, fun i hi => (by omega), fun i hi => (by omega)⟩
set_option maxRecDepth 1000000 in
set_option maxHeartbeats 4000000 in
theorem buildWorld_walk (J : BSpec) (S : Nat) (cx cz : Int) (w : World) (hS : S < 18446744073709551616) (hG : J.G w) :
    Calls Tryz.prog 4 #[.int .u64 S, .agg #[.int .i64 cx, .int .i64 cz]] w fun e w' => e = .returned (.bool true) ∧ Below w.heap.size w w' := by
  have HG : Hid (J.G w) := hG
  clear hG
  obtain ⟨β, hβ⟩ := far_bool cx cz
  by_cases hf : Far 1073741824 cx ∧ Far 1073741824 cz
  case neg =>
    obtain rfl : β = true := by
      rcases β with _ | _
      · exact absurd (hβ.1 rfl) hf
      · rfl
    have Hfar : Hid (∀ w1, Calls Tryz.prog 6 #[.agg #[.int .i64 cx, .int .i64 cz]] w1 fun e w' => e = .returned (.bool true) ∧ Below w1.heap.size w1 w') := fun w1 => far_c cx cz _ w1 hβ
    clear hβ hf
    go_enter Tryz.func4, Tryz.ntmps4
    go_wp2_with fail
    refine (awake_c J _ (J.on HG.out (Bx.start w cx cz).bel)).mono ?_
    rintro _ w1 ⟨rfl, hw1⟩
    have HB1 : Hid (Bx w cx cz w1) := (Bx.start w cx cz).on hw1
    have k0 := HB1.out.k0
    have k1 := HB1.out.k1
    clear hw1
    have hfar := Hfar.out w1
    go_wp2_with fail
    refine hfar.mono ?_
    clear hfar k0 k1
    rintro _ w2 ⟨rfl, hb2⟩
    have HB2 : Hid (Bx w cx cz w2) := HB1.out.on hb2
    clear hb2 HB1
    go_wp2
    go_ret
    exact ⟨rfl, HB2.out.bel⟩
  obtain rfl : β = false := hβ.2 hf
  have Hfar : Hid (∀ w1, Calls Tryz.prog 6 #[.agg #[.int .i64 cx, .int .i64 cz]] w1 fun e w' => e = .returned (.bool false) ∧ Below w1.heap.size w1 w') := fun w1 => far_c cx cz _ w1 hβ
  clear hβ
  go_enter Tryz.func4, Tryz.ntmps4
  go_wp2_with fail
  refine (awake_c J _ (J.on HG.out (Bx.start w cx cz).bel)).mono ?_
  rintro _ w1 ⟨rfl, hw1⟩
  have HB1 : Hid (Bx w cx cz w1) := (Bx.start w cx cz).on hw1
  have k0 := HB1.out.k0
  have k1 := HB1.out.k1
  clear hw1
  have hfar := Hfar.out w1
  go_wp2_with fail
  refine hfar.mono ?_
  clear hfar k0 k1
  rintro _ w2 ⟨rfl, hb2⟩
  have HB2 : Hid (Bx w cx cz w2) := HB1.out.on hb2
  clear hb2 HB1
  have k0 := HB2.out.k0
  have k1 := HB2.out.k1
  have hla := land_c S cx cz none 0 0 [] w2 hS hf.1 hf.2 (no_spots _ _) (by omega)
  have HoH : Hid (okG 128 (chg 128 (·.h) (groundH S cx cz) [] (min 0 3000)) ∧ okG 4 (chg 4 (·.b) (groundB S cx cz) [] (min 0 3000))) := ⟨chg_ok (by omega) (groundH_ok _ _ _) _, chg_ok (by omega) (groundB_ok _ _ _) _⟩
  generalize chg 128 (·.h) (groundH S cx cz) [] (min 0 3000) = hs at *
  generalize chg 4 (·.b) (groundB S cx cz) [] (min 0 3000) = bs at *
  go_wp2_with fail
  refine hla.mono ?_
  clear hla k0 k1
  rintro _ w4 ⟨hb4, b1, cp1, g1, c1, b2, cp2, g2, c2, rfl, hL1, hL2, _⟩
  have HB4 : Hid (Bx w cx cz w4) := HB2.out.on hb4
  have HL4 : Hid (L9 w4 b1 g1 c1 hs ∧ L9 w4 b2 g2 c2 bs) := ⟨hL1, hL2⟩
  have HFk : Hid ((fillN (hs.getD 4 []) (bs.getD 4 [])).length = 32768 ∧ Kinds (fillN (hs.getD 4 []) (bs.getD 4 []))) := ⟨fillN_len _ _, fillN_bd _ _⟩
  have Hfill : Hid (∀ v, Below w4.heap.size w4 v → Calls Tryz.prog 13 #[.slice (some ⟨g1 4, 0, none⟩) 256 (c1 4), .slice (some ⟨g2 4, 0, none⟩) 256 (c2 4)] v fun e w' => Below v.heap.size v w' ∧ ∃ g, e = .returned (.tuple #[.slice (some ⟨g, 0, none⟩) 32768 32768, .int .i64 0]) ∧ Blk w' g 5 (fillN (hs.getD 4 []) (bs.getD 4 []))) := fun v hb => by
    have h1 := ((hL1.on hb).pre 4 (by omega)).ints (hL1.len 4 (by omega))
    have h2 := ((hL2.on hb).pre 4 (by omega)).ints (hL2.len 4 (by omega))
    refine (rfill_c _ _ 256 256 (c1 4) (c2 4) _ _ v h1 h2 (by omega) (by omega)).mono ?_
    rintro e w' ⟨h3, hyes, _⟩
    obtain ⟨gg, _, e1, e2⟩ := hyes (ok_cols HoH.out.1 HoH.out.2 (by omega))
    exact ⟨h3, gg, e1, e2⟩
  have Hr : Hid (w4.cell? ⟨b1, 4, none⟩ = some (.slice (some ⟨g1 4, 0, none⟩) 256 (c1 4)) ∧ w4.cell? ⟨b2, 4, none⟩ = some (.slice (some ⟨g2 4, 0, none⟩) 256 (c2 4))) := ⟨hL1.row 4 (by omega), hL2.row 4 (by omega)⟩
  clear hb4 hL1 hL2 HB2
  generalize fillN (hs.getD 4 []) (bs.getD 4 []) = cs at *
  go_wp2_with fail
  refine region_L (fun w' => Below w4.heap.size w4 w') 12 (by kernel_rfl) ?_
  have hHeld : Below w4.heap.size w4 w4.drew := (Below.refl _ _).drew
  generalize w4.drew = va at *
  have hne : Nonempty (Sub (fun w' => Below w4.heap.size w4 w')) := ⟨⟨_, hHeld⟩⟩
  have r0 : ∀ s : Sub (fun w' => Below w4.heap.size w4 w'), s.w.cell? ⟨b1, 4, none⟩ = some (.slice (some ⟨g1 4, 0, none⟩) 256 (c1 4)) := fun s => cell_below Hr.out.1 s.ok
  have r1 : ∀ s : Sub (fun w' => Below w4.heap.size w4 w'), s.w.cell? ⟨b2, 4, none⟩ = some (.slice (some ⟨g2 4, 0, none⟩) 256 (c2 4)) := fun s => cell_below Hr.out.2 s.ok
  refine take_L (i := 0) rfl (by kernel_rfl) (by kernel_rfl) (by kernel_rfl) (by kernel_rfl) (fun _ _ _ _ h => h) (by exact hHeld) (fun K hK => ?_)
  go_simp
  refine hK _ ?_
  clear hK K
  refine take_L (i := 1) rfl (by kernel_rfl) (by kernel_rfl) (by kernel_rfl) (by kernel_rfl) (fun _ _ _ _ h => h) (by exact hHeld) (fun K hK => ?_)
  go_simp
  refine hK _ ?_
  clear hK K
  refine take_L (i := 2) rfl (by kernel_rfl) (by kernel_rfl) (by kernel_rfl) (by kernel_rfl) (fun _ _ _ _ h => h) (by exact hHeld) (fun K hK => ?_)
  go_simp
  refine hK _ ?_
  clear hK K
  refine take_L (i := 3) rfl (by kernel_rfl) (by kernel_rfl) (by kernel_rfl) (by kernel_rfl) (fun _ _ _ _ h => h) (by exact hHeld) (fun K hK => ?_)
  go_simp
  refine hK _ ?_
  clear hK K
  refine take_L (i := 4) rfl (by kernel_rfl) (by kernel_rfl) (by kernel_rfl) (by kernel_rfl) (fun _ _ _ _ h => h) (by exact hHeld) (fun K hK => ?_)
  go_simp
  refine hK _ ?_
  clear hK K
  refine take_L (i := 5) rfl (by kernel_rfl) (by kernel_rfl) (by kernel_rfl) (by kernel_rfl) (fun _ _ _ _ h => h) (by exact hHeld) (fun K hK => ?_)
  go_simp
  refine hK _ ?_
  clear hK K
  refine one_L (i := 6) (by kernel_rfl) rfl (fun K hK => ?_)
  go_simp
  refine (Hfill.out va hHeld).mono ?_
  rintro _ w5 ⟨hb5, bg, rfl, hF5⟩
  replace hHeld : Below w4.heap.size w4 w5 := hHeld.trans (hb5.mono hHeld.size)
  refine hK.out _ _ (fun _ => hHeld) ?_
  clear hK K hb5
  refine take_L (i := 7) rfl (by kernel_rfl) (by kernel_rfl) (by kernel_rfl) (by kernel_rfl) (fun _ _ _ _ h => h) (by exact hHeld) (fun K hK => ?_)
  go_simp
  refine hK _ ?_
  clear hK K
  refine take_L (i := 8) rfl (by kernel_rfl) (by kernel_rfl) (by kernel_rfl) (by kernel_rfl) (fun _ _ _ _ h => h) (by exact hHeld) (fun K hK => ?_)
  go_simp
  refine hK _ ?_
  clear hK K
  refine take_L (i := 9) rfl (by kernel_rfl) (by kernel_rfl) (by kernel_rfl) (by kernel_rfl) (fun _ _ _ _ h => h) (by exact hHeld) (fun K hK => ?_)
  go_simp
  refine hK _ ?_
  clear hK K
  refine take_L (i := 10) rfl (by kernel_rfl) (by kernel_rfl) (by kernel_rfl) (by kernel_rfl) (fun _ _ _ _ h => h) (by exact hHeld) (fun K hK => ?_)
  go_simp
  refine hK _ ?_
  clear hK K
  refine take_L (i := 11) rfl (by kernel_rfl) (by kernel_rfl) (by kernel_rfl) (by kernel_rfl) (fun _ _ _ _ h => h) (by exact hHeld) (fun K hK => ?_)
  go_simp
  refine hK _ ?_
  clear hK K
  refine done_L (by kernel_rfl) ?_ _
  have HB5 : Hid (Bx w cx cz w5) := HB4.out.on hHeld
  have HC5 : Hid (Blk w5 bg 5 cs ∧ L9 w5 b1 g1 c1 hs ∧ L9 w5 b2 g2 c2 bs) := ⟨hF5, HL4.out.1.on hHeld, HL4.out.2.on hHeld⟩
  have hfr := from_c (some ⟨bg, 0, none⟩) 32768 32768 cs w5 (Blk.src2 hF5 HFk.out.1 HFk.out.2) (by omega)
  have hmay := kinds_may HFk.out.2 HFk.out.1
  clear hne r0 r1 hHeld hF5 HB4 HL4 Hfill Hr
  go_wp2_with fail
  refine hfr.mono ?_
  clear hfr
  rintro _ w6 ⟨hb6, h6⟩
  rcases h6 with ⟨_, rfl, hX6⟩ | ⟨hno, _⟩
  case inr => exact absurd hmay hno
  have HB6 : Hid (Bx w cx cz w6) := HB5.out.on hb6
  have HC6 : Hid (Blk w6 bg 5 cs ∧ L9 w6 b1 g1 c1 hs ∧ L9 w6 b2 g2 c2 bs ∧ Blk w6 w5.heap.size 58 cs) := ⟨HC5.out.1.below hb6 HC5.out.1.lt, HC5.out.2.1.on hb6, HC5.out.2.2.on hb6, hX6⟩
  clear hb6 HB5 HC5 hX6 hmay
  generalize w5.heap.size = xg at *
  have k0 := HB6.out.k0
  have k1 := HB6.out.k1
  have hap := J.apply_ S cx cz xg cs (some ⟨b1, 0, none⟩) (some ⟨b2, 0, none⟩) cp1 cp2 hs bs w6 hS (far_up hf.1) (far_up hf.2) HC6.out.2.2.2 HFk.out.1 HFk.out.2 HC6.out.2.1.rows HC6.out.2.2.1.rows HoH.out.1 HoH.out.2 (J.on HG.out HB6.out.bel)
  go_wp2_with fail
  refine hap.mono ?_
  clear hap k0 k1
  rintro _ w7 ⟨hb7, yg, rfl, hY7⟩
  have HB7 : Hid (Bx w cx cz w7) := HB6.out.on hb7
  have HC7 : Hid (Blk w7 bg 5 cs ∧ L9 w7 b1 g1 c1 hs ∧ L9 w7 b2 g2 c2 bs ∧ Blk w7 yg 58 (buildN S cx cz hs bs cs)) := ⟨HC6.out.1.below hb7 HC6.out.1.lt, HC6.out.2.1.on hb7, HC6.out.2.2.1.on hb7, hY7⟩
  clear hb7 hY7 HB6 HC6
  have k0 := HB7.out.k0
  have k1 := HB7.out.k1
  have hra := rapply_c S cx cz bg 32768 cs (some ⟨b1, 0, none⟩) (some ⟨b2, 0, none⟩) cp1 cp2 hs bs w7 hS (far_pair hf.1) (far_pair hf.2) (Blk.pre HC7.out.1) HFk.out.1 HFk.out.2 HC7.out.2.1.rows HC7.out.2.2.1.rows HoH.out.1 HoH.out.2
  go_wp2_with fail
  refine hra.mono ?_
  clear hra k0 k1
  rintro _ w8 ⟨hb8, og, oc, rfl, hO8⟩
  have HB8 : Hid (Below w.heap.size w w8) := (HB7.out.on hb8).bel
  have HF : Hid ((buildN S cx cz hs bs cs).length = 32768 ∧ Kinds (buildN S cx cz hs bs cs)) := ⟨buildN_len _ _ _ _ _ _, build_kinds HFk.out.2⟩
  have HC8 : Hid (Blk w8 yg 58 (buildN S cx cz hs bs cs) ∧ Pre w8 og 5 (buildN S cx cz hs bs cs)) := ⟨HC7.out.2.2.2.below hb8 HC7.out.2.2.2.lt, hO8⟩
  clear hb8 hO8 HB7 HC7 HoH
  generalize buildN S cx cz hs bs cs = F at *
  obtain ⟨XF, hXF⟩ : ∃ X, X = strOfNums F := ⟨_, rfl⟩
  have HXF : Hid (XF = strOfNums F) := hXF
  clear hXF
  go_wp2_with fail
  refine region_L (fun w' => Below w8.heap.size w8 w') 15 (by kernel_rfl) ?_
  have hHeld : Below w8.heap.size w8 w8.drew := (Below.refl _ _).drew
  generalize w8.drew = va at *
  have hne : Nonempty (Sub (fun w' => Below w8.heap.size w8 w')) := ⟨⟨_, hHeld⟩⟩
  have v7 : ∀ s : Sub (fun w' => Below w8.heap.size w8 w'), (convert 29 9 (.slice (some ⟨og, 0, none⟩) 32768 oc)).run Tryz.prog s.w = .ok (.string XF) s.w := fun s => by rw [HXF.out]; exact Pre.conv (HC8.out.2.below s.ok HC8.out.2.lt) HF.out.1 HF.out.2
  refine take_L (i := 0) rfl (by kernel_rfl) (by kernel_rfl) (by kernel_rfl) (by kernel_rfl) (fun _ _ _ _ h => h) (by exact hHeld) (fun K hK => ?_)
  go_simp
  refine hK _ ?_
  clear hK K
  refine take_L (i := 1) rfl (by kernel_rfl) (by kernel_rfl) (by kernel_rfl) (by kernel_rfl) (fun _ _ _ _ h => h) (by exact hHeld) (fun K hK => ?_)
  go_simp
  refine hK _ ?_
  clear hK K
  refine take_L (i := 2) rfl (by kernel_rfl) (by kernel_rfl) (by kernel_rfl) (by kernel_rfl) (fun _ _ _ _ h => h) (by exact hHeld) (fun K hK => ?_)
  go_simp
  refine hK _ ?_
  clear hK K
  refine take_L (i := 3) rfl (by kernel_rfl) (by kernel_rfl) (by kernel_rfl) (by kernel_rfl) (fun _ _ _ _ h => h) (by exact hHeld) (fun K hK => ?_)
  go_simp
  refine hK _ ?_
  clear hK K
  refine take_L (i := 4) rfl (by kernel_rfl) (by kernel_rfl) (by kernel_rfl) (by kernel_rfl) (fun _ _ _ _ h => h) (by exact hHeld) (fun K hK => ?_)
  go_simp
  refine hK _ ?_
  clear hK K
  refine take_L (i := 5) rfl (by kernel_rfl) (by kernel_rfl) (by kernel_rfl) (by kernel_rfl) (fun _ _ _ _ h => h) (by exact hHeld) (fun K hK => ?_)
  go_simp
  refine hK _ ?_
  clear hK K
  refine take_L (i := 6) rfl (by kernel_rfl) (by kernel_rfl) (by kernel_rfl) (by kernel_rfl) (fun _ _ _ _ h => h) (by exact hHeld) (fun K hK => ?_)
  go_simp
  refine hK _ ?_
  clear hK K
  refine take_L (i := 7) rfl (by kernel_rfl) (by kernel_rfl) (by kernel_rfl) (by kernel_rfl) (fun _ _ _ _ h => h) (by exact hHeld) (fun K hK => ?_)
  go_simp
  refine hK _ ?_
  clear hK K
  refine take_L (i := 10) rfl (by kernel_rfl) (by kernel_rfl) (by kernel_rfl) (by kernel_rfl) (fun _ _ _ _ h => h) (by exact hHeld) (fun K hK => ?_)
  go_simp
  refine hK _ ?_
  clear hK K
  refine take_L (i := 11) rfl (by kernel_rfl) (by kernel_rfl) (by kernel_rfl) (by kernel_rfl) (fun _ _ _ _ h => h) (by exact hHeld) (fun K hK => ?_)
  go_simp
  refine hK _ ?_
  clear hK K
  clear v7 hne
  refine one_L (i := 8) (by kernel_rfl) rfl (fun K hK => ?_)
  go_simp
  refine (bytes_c yg F va (HC8.out.1.below hHeld HC8.out.1.lt) HF.out.1).mono ?_
  rintro _ w9 ⟨rfl, hB9, hb9⟩
  replace hHeld : Below w8.heap.size w8 w9 := hHeld.trans (hb9.mono hHeld.size)
  refine hK.out _ _ (fun _ => hHeld) ?_
  clear hK K hb9
  generalize va.heap.size = g9 at *
  refine wpAnyL_strong (S' := fun w' => Below w9.heap.size w9 w') (fun w' h => hHeld.trans (h.mono hHeld.size)) _ _ _ _ ?_
  have HH9 : Hid (Below w8.heap.size w8 w9) := hHeld
  replace hHeld : Below w9.heap.size w9 w9 := Below.refl _ _
  have hne : Nonempty (Sub (fun w' => Below w9.heap.size w9 w')) := ⟨⟨_, hHeld⟩⟩
  have v8 : ∀ s : Sub (fun w' => Below w9.heap.size w9 w'), (convert 29 9 (.slice (some ⟨g9, 0, none⟩) 32768 32768)).run Tryz.prog s.w = .ok (.string XF) s.w := fun s => by rw [HXF.out]; exact Blk.conv2 (hB9.below s.ok hB9.lt) HF.out.1 HF.out.2
  refine take_L (i := 9) rfl (by kernel_rfl) (by kernel_rfl) (by kernel_rfl) (by kernel_rfl) (fun _ _ _ _ h => h) (by exact hHeld) (fun K hK => ?_)
  go_simp
  refine hK _ ?_
  clear hK K
  refine take_L (i := 12) rfl (by kernel_rfl) (by kernel_rfl) (by kernel_rfl) (by kernel_rfl) (fun _ _ _ _ h => h) (by exact hHeld) (fun K hK => ?_)
  go_simp
  refine hK _ ?_
  clear hK K
  refine take_L (i := 13) rfl (by kernel_rfl) (by kernel_rfl) (by kernel_rfl) (by kernel_rfl) (fun _ _ _ _ h => h) (by exact hHeld) (fun K hK => ?_)
  go_simp
  refine hK _ ?_
  clear hK K
  refine take_L (i := 14) rfl (by kernel_rfl) (by kernel_rfl) (by kernel_rfl) (by kernel_rfl) (fun _ _ _ _ h => h) (by exact hHeld) (fun K hK => ?_)
  go_simp
  refine hK _ ?_
  clear hK K
  refine done_L (by kernel_rfl) ?_ _
  have R := HB8.out.trans (HH9.out.mono HB8.out.size)
  clear v8 hne hHeld
  go_wp2
  go_ret
  exact ⟨rfl, R⟩
end Go.Proofs.YtbdjgaagafnfaaaGreat