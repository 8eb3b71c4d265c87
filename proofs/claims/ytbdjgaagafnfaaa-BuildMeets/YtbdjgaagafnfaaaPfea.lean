/-
  The landed build: the feature of an origin.
-/
import Derived.Test.YtbdjgaagafnfaaaPcol
import Derived.Test.YtbdjgaagafnfaaaPsoil
import Derived.Test.YtbdjgaagafnfaaaPrm
set_option maxRecDepth 20000
namespace Go.Proofs.Ytbdjgaagafnfaaa
open C Go.RowKit Go.Shelf R

def featH (s h : Nat) (cx cz : Int) (hs bs : List (List Int)) (ox oz : Int) : Option Feat :=
  if belowN h 100 < some_ s ∧ near2 (colX s h ox - cx * 16) = true ∧ near2 (colZ s h oz - cz * 16) = true ∧ standB s h (gAt cx cz hs (colX s h ox) (colZ s h oz)) (gAt cx cz bs (colX s h ox) (colZ s h oz)) = true
  then some ⟨s, colX s h ox - cx * 16, colZ s h oz - cz * 16, gAt cx cz hs (colX s h ox) (colZ s h oz), gAt cx cz bs (colX s h ox) (colZ s h oz), lenT h⟩ else none
def featO (S s : Nat) (cx cz : Int) (hs bs : List (List Int)) (ox oz : Int) : Option Feat := featH s (hT S s ox oz) cx cz hs bs ox oz
def FeatSay (f : Option Feat) (e : Ending) : Prop := ∃ v, e = .returned (.tuple #[v, .bool f.isSome]) ∧ ∀ x, f = some x → v = x.val
theorem two_al {w W : World} {o0 o1 : Obj} (h : W = (w.alloc o0).alloc o1) : Below w.heap.size w W ∧ W.heap[w.heap.size]? = some o0 ∧ W.heap[w.heap.size + 1]? = some o1 := by
  subst h
  exact ⟨below_two w _ _, (heap_alloc_old _ _ (by simp)).trans (heap_alloc_new w _), new_two w _ _⟩
theorem gAt_in {m cx cz x z : Int} {ls : List (List Int)} (h : okG m ls) (hx : near2 (x - cx * 16) = true) (hz : near2 (z - cz * 16) = true) : 0 ≤ gAt cx cz ls x z ∧ gAt cx cz ls x z < m := by
  have h1 : -2 ≤ x - cx * 16 ∧ x - cx * 16 < 18 := of_decide_eq_true hx
  have h2 : -2 ≤ z - cz * 16 ∧ z - cz * 16 < 18 := of_decide_eq_true hz
  exact gAt_bd h (by unfold nearB; exact decide_eq_true (by omega))
theorem feat_ok {S s : Nat} {cx cz : Int} {hs bs : List (List Int)} {ox oz : Int} {f : Feat} (h3 : s < 3) (oH : okG 128 hs) (h : featO S s cx cz hs bs ox oz = some f) : f.Ok ∧ f.s = s := by
  unfold featO featH at h
  split at h
  · rename_i hc
    injection h with h
    subst h
    obtain ⟨_, hx, hz, _⟩ := hc
    exact ⟨⟨h3, of_decide_eq_true hx, of_decide_eq_true hz, gAt_in oH hx hz, lenT_bd _⟩, rfl⟩
  · cases h

set_option maxHeartbeats 2000000 in
theorem feature_0 (S : Nat) (cx cz ox oz : Int) (a a' : Option Addr) (c c' : Nat) (hs bs : List (List Int)) (w : World) (hS : S < 18446744073709551616) (hx : Far 1099511627776 ox) (hz : Far 1099511627776 oz) (hcx : Far 1073741825 cx) (hcz : Far 1073741825 cz) (hH : Rows2 w a hs) (hB : Rows2 w a' bs) (oH : okG 128 hs) (oB : okG 4 bs) :
    Calls Try.prog 61 #[.agg (landA (cx * 16) (cz * 16) a a' c c'), .int .u64 S, .agg (scA 0), .int .i64 ox, .int .i64 oz] w fun e w' => FeatSay (featO S 0 cx cz hs bs ox oz) e ∧ Below w.heap.size w w' := by
  obtain ⟨Post, hPost⟩ : ∃ Post : Ending → World → Prop, Post = fun e w' => FeatSay (featO S 0 cx cz hs bs ox oz) e ∧ Below w.heap.size w w' := ⟨_, rfl⟩
  rw [← hPost]
  have HP : Hid (∀ e w', FeatSay (featO S 0 cx cz hs bs ox oz) e → Below w.heap.size w w' → Post e w') := fun e w' h1 h2 => by rw [hPost]; exact ⟨h1, h2⟩
  clear hPost
  unfold featO at HP
  have hcol := fun w => column_0 S ox oz w hS hx hz
  generalize hT S 0 ox oz = h at *
  have q1 := colX_bd 0 h ox
  have q2 := colZ_bd 0 h oz
  have q3 : side 0 = 32 := rfl
  rw [q3] at q1 q2
  unfold Far at hx hz
  have HSo : Hid (∀ w', Below w.heap.size w w' → Calls Try.prog 76 #[.agg (landA (cx * 16) (cz * 16) a a' c c'), .int .i64 (colX 0 h ox), .int .i64 (colZ 0 h oz)] w' fun e w'' => e = soilSay cx cz hs bs (colX 0 h ox) (colZ 0 h oz) ∧ Below w'.heap.size w' w'') := fun w' hb =>
    soil_c cx cz _ _ a a' c c' hs bs w' (by unfold Far; omega) (by unfold Far; omega) hcx hcz (hH.on hb) (hB.on hb) oH oB
  clear q1 q2 q3 hH hB oH oB hcx hcz hx hz
  have Hfe : Hid (featH 0 h cx cz hs bs ox oz = if belowN h 100 < some_ 0 ∧ near2 (colX 0 h ox - cx * 16) = true ∧ near2 (colZ 0 h oz - cz * 16) = true ∧ standB 0 h (gAt cx cz hs (colX 0 h ox) (colZ 0 h oz)) (gAt cx cz bs (colX 0 h ox) (colZ 0 h oz)) = true then some ⟨0, colX 0 h ox - cx * 16, colZ 0 h oz - cz * 16, gAt cx cz hs (colX 0 h ox) (colZ 0 h oz), gAt cx cz bs (colX 0 h ox) (colZ 0 h oz), lenT h⟩ else none) := rfl
  have Hss : Hid (∀ x z, soilSay cx cz hs bs x z = if (near2 (x - cx * 16) && near2 (z - cz * 16)) = true then .returned (.tuple #[soilV (x - cx * 16) (z - cz * 16) (gAt cx cz hs x z) (gAt cx cz bs x z), .bool true]) else .returned (.tuple #[soilV 0 0 0 0, .bool false])) := fun _ _ => rfl
  unfold colSay at hcol
  generalize colX 0 h ox = CX at *
  generalize colZ 0 h oz = CZ at *
  generalize featH 0 h cx cz hs bs ox oz = F at *
  generalize cx * 16 = X at *
  generalize cz * 16 = Z at *
  have hen : ∀ args w, (callFunc 56 args).run Try.prog w = .ok (.enter 56 args) w := enters_of Try.func56 (by kernel_rfl) rfl
  show Calls Try.prog 61 #[.agg (landA X Z a a' c c'), .int .u64 S, .agg #[.int .i64 41, .int .i64 35, .int .i64 32, .int .i64 8, .int .i64 4, .func (.func 56) #[] #[]], .int .i64 ox, .int .i64 oz] w Post
  replace hcol : ∀ w, Calls Try.prog 75 #[.agg #[.int .i64 41, .int .i64 35, .int .i64 32, .int .i64 8, .int .i64 4, .func (.func 56) #[] #[]], .int .u64 S, .int .i64 ox, .int .i64 oz] w fun e w' => (e = if belowN h 100 < some_ 0 then .returned (.tuple #[.int .i64 CX, .int .i64 CZ, .int .u64 (h : Int), .bool true]) else .returned (.tuple #[.int .i64 0, .int .i64 0, .int .u64 0, .bool false])) ∧ Below w.heap.size w w' := hcol
  obtain ⟨W, hW⟩ : ∃ W, W = (w.alloc (.cells (landA X Z a a' c c') 65)).alloc (.cells #[.int .i64 41, .int .i64 35, .int .i64 32, .int .i64 8, .int .i64 4, .func (.func 56) #[] #[]] 91) := ⟨_, rfl⟩
  obtain ⟨hbel, k0, k1⟩ := two_al hW
  have HK : Hid (Below w.heap.size w W ∧ W.heap[w.heap.size]? = some (.cells (landA X Z a a' c c') 65) ∧ W.heap[w.heap.size + 1]? = some (.cells #[.int .i64 41, .int .i64 35, .int .i64 32, .int .i64 8, .int .i64 4, .func (.func 56) #[] #[]] 91)) := ⟨hbel, k0, k1⟩
  have HW : Hid (W = (w.alloc (.cells (landA X Z a a' c c') 65)).alloc (.cells #[.int .i64 41, .int .i64 35, .int .i64 32, .int .i64 8, .int .i64 4, .func (.func 56) #[] #[]] 91)) := hW
  clear hbel k0 k1 hW
  go_enter Try.func61, Try.ntmps61
  go_wp2_with fail
  rw [← HW.out]
  clear HW
  refine (hcol _).mono ?_
  clear hcol
  rintro _ W1 ⟨rfl, hb1⟩
  have HB1 : Hid (Below w.heap.size w W1) := HK.out.1.trans (hb1.mono HK.out.1.size)
  have l0 : W1.heap[w.heap.size]? = some (.cells (landA X Z a a' c c') 65) := (hb1.block _ (Array.getElem?_eq_some_iff.1 HK.out.2.1).1).trans HK.out.2.1
  have l1 : W1.heap[w.heap.size + 1]? = some (.cells #[.int .i64 41, .int .i64 35, .int .i64 32, .int .i64 8, .int .i64 4, .func (.func 56) #[] #[]] 91) := (hb1.block _ (Array.getElem?_eq_some_iff.1 HK.out.2.2).1).trans HK.out.2.2
  clear HK hb1
  by_cases hbl : belowN h 100 < some_ 0
  case neg =>
    rw [if_neg hbl]
    have hF : F = none := by rw [Hfe.out]; exact if_neg (fun q => hbl q.1)
    have R := HP.out (.returned (.tuple #[.nilIface, .bool false])) W1 (by rw [hF]; exact ⟨_, rfl, fun _ q => by cases q⟩) HB1.out
    clear HP HSo Hfe Hss HB1 l0 l1 hF hen
    go_wp2
    exact R
  rw [if_pos hbl]
  have y0 : W1.cell? ⟨w.heap.size, 0, none⟩ = some (.int .i64 X) := (cell_of_row W1 _ 0 _ 65 (0, 0) l0).trans rfl
  have y1 : W1.cell? ⟨w.heap.size, 1, none⟩ = some (.int .i64 0) := (cell_of_row W1 _ 1 _ 65 (0, 0) l0).trans rfl
  have y2 : W1.cell? ⟨w.heap.size, 2, none⟩ = some (.int .i64 Z) := (cell_of_row W1 _ 2 _ 65 (0, 0) l0).trans rfl
  have y3 : W1.cell? ⟨w.heap.size, 3, none⟩ = some (.slice a 9 c) := (cell_of_row W1 _ 3 _ 65 (0, 0) l0).trans rfl
  have y4 : W1.cell? ⟨w.heap.size, 4, none⟩ = some (.slice a' 9 c') := (cell_of_row W1 _ 4 _ 65 (0, 0) l0).trans rfl
  have Hl1 : Hid (W1.heap[w.heap.size + 1]? = some (.cells #[.int .i64 41, .int .i64 35, .int .i64 32, .int .i64 8, .int .i64 4, .func (.func 56) #[] #[]] 91)) := l1
  have hso := HSo.out W1 HB1.out
  rw [Hss.out] at hso
  clear HSo l0 l1 Hss
  go_wp2_with fail
  refine hso.mono ?_
  clear hso
  rintro _ W2 ⟨rfl, hb2⟩
  have HB2 : Hid (Below w.heap.size w W2) := HB1.out.trans (hb2.mono HB1.out.size)
  have Hl2 : Hid (W2.heap[w.heap.size + 1]? = some (.cells #[.int .i64 41, .int .i64 35, .int .i64 32, .int .i64 8, .int .i64 4, .func (.func 56) #[] #[]] 91)) := (hb2.block _ (Array.getElem?_eq_some_iff.1 Hl1.out).1).trans Hl1.out
  clear y0 y1 y2 y3 y4 hb2 HB1 Hl1
  by_cases hnr : (near2 (CX - X) && near2 (CZ - Z)) = true
  case neg =>
    rw [if_neg hnr]
    have hF : F = none := by rw [Hfe.out]; exact if_neg (fun q => hnr (by rw [q.2.1, q.2.2.1]; rfl))
    have R := HP.out (.returned (.tuple #[.nilIface, .bool false])) (W2.alloc (.cells #[.int .i64 0, .int .i64 0, .int .i64 0, .int .i64 0] 124)) (by rw [hF]; exact ⟨_, rfl, fun _ q => by cases q⟩) (HB2.out.alloc HB2.out.size _)
    clear HP Hfe HB2 Hl2 hF hen
    go_wp2
    exact R
  rw [if_pos hnr]
  rw [Bool.and_eq_true] at hnr
  generalize gAt cx cz hs CX CZ = gh at *
  generalize gAt cx cz bs CX CZ = gb at *
  generalize CX - X = px at *
  generalize CZ - Z = pz at *
  have hon := fun w => ruinOn_c h px pz gh gb w
  have HF : Hid (∀ b, (true : Bool) = b → FeatSay F (.returned (.tuple #[.iface 126 (soilV px pz gh gb), .bool b]))) := fun b q => by
    by_cases hst : standB 0 h gh gb = true
    · have hF : F = some ⟨0, px, pz, gh, gb, lenT h⟩ := by rw [Hfe.out]; exact if_pos ⟨hbl, hnr.1, hnr.2, hst⟩
      rw [hF, ← q]
      exact ⟨_, rfl, fun x e => by injection e with e; subst e; rfl⟩
    · have hF : F = none := by rw [Hfe.out]; exact if_neg (fun q => hst q.2.2.2)
      rw [hF, ← q]
      exact absurd (show standB 0 h gh gb = true by unfold standB; rfl) hst
  have HB3 : Hid (Below w.heap.size w (W2.alloc (.cells #[.int .i64 px, .int .i64 pz, .int .i64 gh, .int .i64 gb] 124))) := HB2.out.alloc HB2.out.size _
  have v5 : W2.cell? ⟨w.heap.size + 1, 5, none⟩ = some (.func (.func 56) #[] #[]) := (cell_of_row W2 _ 5 _ 91 (0, 0) Hl2.out).trans rfl
  have v5' : (W2.alloc (.cells #[.int .i64 px, .int .i64 pz, .int .i64 gh, .int .i64 gb] 124)).cell? ⟨w.heap.size + 1, 5, none⟩ = some (.func (.func 56) #[] #[]) := by
    have := (heap_alloc_old W2 (.cells #[.int .i64 px, .int .i64 pz, .int .i64 gh, .int .i64 gb] 124) (Array.getElem?_eq_some_iff.1 Hl2.out).1).trans Hl2.out
    exact (cell_of_row _ _ 5 _ 91 (0, 0) this).trans rfl
  clear Hfe HB2 Hl2 hnr hbl
  go_wp2_with fail
  refine (hon _).mono ?_
  clear hon
  rintro _ W3 ⟨rfl, hb3⟩
  have R := HP.out _ W3 (HF.out _ rfl) (HB3.out.trans (hb3.mono HB3.out.size))
  clear HP HF HB3 hb3
  go_wp2
  exact R
set_option maxHeartbeats 2000000 in
theorem feature_1 (S : Nat) (cx cz ox oz : Int) (a a' : Option Addr) (c c' : Nat) (hs bs : List (List Int)) (w : World) (hS : S < 18446744073709551616) (hx : Far 1099511627776 ox) (hz : Far 1099511627776 oz) (hcx : Far 1073741825 cx) (hcz : Far 1073741825 cz) (hH : Rows2 w a hs) (hB : Rows2 w a' bs) (oH : okG 128 hs) (oB : okG 4 bs) :
    Calls Try.prog 61 #[.agg (landA (cx * 16) (cz * 16) a a' c c'), .int .u64 S, .agg (scA 1), .int .i64 ox, .int .i64 oz] w fun e w' => FeatSay (featO S 1 cx cz hs bs ox oz) e ∧ Below w.heap.size w w' := by
  obtain ⟨Post, hPost⟩ : ∃ Post : Ending → World → Prop, Post = fun e w' => FeatSay (featO S 1 cx cz hs bs ox oz) e ∧ Below w.heap.size w w' := ⟨_, rfl⟩
  rw [← hPost]
  have HP : Hid (∀ e w', FeatSay (featO S 1 cx cz hs bs ox oz) e → Below w.heap.size w w' → Post e w') := fun e w' h1 h2 => by rw [hPost]; exact ⟨h1, h2⟩
  clear hPost
  unfold featO at HP
  have hcol := fun w => column_1 S ox oz w hS hx hz
  generalize hT S 1 ox oz = h at *
  have q1 := colX_bd 1 h ox
  have q2 := colZ_bd 1 h oz
  have q3 : side 1 = 16 := rfl
  rw [q3] at q1 q2
  unfold Far at hx hz
  have HSo : Hid (∀ w', Below w.heap.size w w' → Calls Try.prog 76 #[.agg (landA (cx * 16) (cz * 16) a a' c c'), .int .i64 (colX 1 h ox), .int .i64 (colZ 1 h oz)] w' fun e w'' => e = soilSay cx cz hs bs (colX 1 h ox) (colZ 1 h oz) ∧ Below w'.heap.size w' w'') := fun w' hb =>
    soil_c cx cz _ _ a a' c c' hs bs w' (by unfold Far; omega) (by unfold Far; omega) hcx hcz (hH.on hb) (hB.on hb) oH oB
  clear q1 q2 q3 hH hB oH oB hcx hcz hx hz
  have Hfe : Hid (featH 1 h cx cz hs bs ox oz = if belowN h 100 < some_ 1 ∧ near2 (colX 1 h ox - cx * 16) = true ∧ near2 (colZ 1 h oz - cz * 16) = true ∧ standB 1 h (gAt cx cz hs (colX 1 h ox) (colZ 1 h oz)) (gAt cx cz bs (colX 1 h ox) (colZ 1 h oz)) = true then some ⟨1, colX 1 h ox - cx * 16, colZ 1 h oz - cz * 16, gAt cx cz hs (colX 1 h ox) (colZ 1 h oz), gAt cx cz bs (colX 1 h ox) (colZ 1 h oz), lenT h⟩ else none) := rfl
  have Hss : Hid (∀ x z, soilSay cx cz hs bs x z = if (near2 (x - cx * 16) && near2 (z - cz * 16)) = true then .returned (.tuple #[soilV (x - cx * 16) (z - cz * 16) (gAt cx cz hs x z) (gAt cx cz bs x z), .bool true]) else .returned (.tuple #[soilV 0 0 0 0, .bool false])) := fun _ _ => rfl
  unfold colSay at hcol
  generalize colX 1 h ox = CX at *
  generalize colZ 1 h oz = CZ at *
  generalize featH 1 h cx cz hs bs ox oz = F at *
  generalize cx * 16 = X at *
  generalize cz * 16 = Z at *
  have hen : ∀ args w, (callFunc 57 args).run Try.prog w = .ok (.enter 57 args) w := enters_of Try.func57 (by kernel_rfl) rfl
  show Calls Try.prog 61 #[.agg (landA X Z a a' c c'), .int .u64 S, .agg #[.int .i64 42, .int .i64 20, .int .i64 16, .int .i64 0, .int .i64 4, .func (.func 57) #[] #[]], .int .i64 ox, .int .i64 oz] w Post
  replace hcol : ∀ w, Calls Try.prog 75 #[.agg #[.int .i64 42, .int .i64 20, .int .i64 16, .int .i64 0, .int .i64 4, .func (.func 57) #[] #[]], .int .u64 S, .int .i64 ox, .int .i64 oz] w fun e w' => (e = if belowN h 100 < some_ 1 then .returned (.tuple #[.int .i64 CX, .int .i64 CZ, .int .u64 (h : Int), .bool true]) else .returned (.tuple #[.int .i64 0, .int .i64 0, .int .u64 0, .bool false])) ∧ Below w.heap.size w w' := hcol
  obtain ⟨W, hW⟩ : ∃ W, W = (w.alloc (.cells (landA X Z a a' c c') 65)).alloc (.cells #[.int .i64 42, .int .i64 20, .int .i64 16, .int .i64 0, .int .i64 4, .func (.func 57) #[] #[]] 91) := ⟨_, rfl⟩
  obtain ⟨hbel, k0, k1⟩ := two_al hW
  have HK : Hid (Below w.heap.size w W ∧ W.heap[w.heap.size]? = some (.cells (landA X Z a a' c c') 65) ∧ W.heap[w.heap.size + 1]? = some (.cells #[.int .i64 42, .int .i64 20, .int .i64 16, .int .i64 0, .int .i64 4, .func (.func 57) #[] #[]] 91)) := ⟨hbel, k0, k1⟩
  have HW : Hid (W = (w.alloc (.cells (landA X Z a a' c c') 65)).alloc (.cells #[.int .i64 42, .int .i64 20, .int .i64 16, .int .i64 0, .int .i64 4, .func (.func 57) #[] #[]] 91)) := hW
  clear hbel k0 k1 hW
  go_enter Try.func61, Try.ntmps61
  go_wp2_with fail
  rw [← HW.out]
  clear HW
  refine (hcol _).mono ?_
  clear hcol
  rintro _ W1 ⟨rfl, hb1⟩
  have HB1 : Hid (Below w.heap.size w W1) := HK.out.1.trans (hb1.mono HK.out.1.size)
  have l0 : W1.heap[w.heap.size]? = some (.cells (landA X Z a a' c c') 65) := (hb1.block _ (Array.getElem?_eq_some_iff.1 HK.out.2.1).1).trans HK.out.2.1
  have l1 : W1.heap[w.heap.size + 1]? = some (.cells #[.int .i64 42, .int .i64 20, .int .i64 16, .int .i64 0, .int .i64 4, .func (.func 57) #[] #[]] 91) := (hb1.block _ (Array.getElem?_eq_some_iff.1 HK.out.2.2).1).trans HK.out.2.2
  clear HK hb1
  by_cases hbl : belowN h 100 < some_ 1
  case neg =>
    rw [if_neg hbl]
    have hF : F = none := by rw [Hfe.out]; exact if_neg (fun q => hbl q.1)
    have R := HP.out (.returned (.tuple #[.nilIface, .bool false])) W1 (by rw [hF]; exact ⟨_, rfl, fun _ q => by cases q⟩) HB1.out
    clear HP HSo Hfe Hss HB1 l0 l1 hF hen
    go_wp2
    exact R
  rw [if_pos hbl]
  have y0 : W1.cell? ⟨w.heap.size, 0, none⟩ = some (.int .i64 X) := (cell_of_row W1 _ 0 _ 65 (0, 0) l0).trans rfl
  have y1 : W1.cell? ⟨w.heap.size, 1, none⟩ = some (.int .i64 0) := (cell_of_row W1 _ 1 _ 65 (0, 0) l0).trans rfl
  have y2 : W1.cell? ⟨w.heap.size, 2, none⟩ = some (.int .i64 Z) := (cell_of_row W1 _ 2 _ 65 (0, 0) l0).trans rfl
  have y3 : W1.cell? ⟨w.heap.size, 3, none⟩ = some (.slice a 9 c) := (cell_of_row W1 _ 3 _ 65 (0, 0) l0).trans rfl
  have y4 : W1.cell? ⟨w.heap.size, 4, none⟩ = some (.slice a' 9 c') := (cell_of_row W1 _ 4 _ 65 (0, 0) l0).trans rfl
  have Hl1 : Hid (W1.heap[w.heap.size + 1]? = some (.cells #[.int .i64 42, .int .i64 20, .int .i64 16, .int .i64 0, .int .i64 4, .func (.func 57) #[] #[]] 91)) := l1
  have hso := HSo.out W1 HB1.out
  rw [Hss.out] at hso
  clear HSo l0 l1 Hss
  go_wp2_with fail
  refine hso.mono ?_
  clear hso
  rintro _ W2 ⟨rfl, hb2⟩
  have HB2 : Hid (Below w.heap.size w W2) := HB1.out.trans (hb2.mono HB1.out.size)
  have Hl2 : Hid (W2.heap[w.heap.size + 1]? = some (.cells #[.int .i64 42, .int .i64 20, .int .i64 16, .int .i64 0, .int .i64 4, .func (.func 57) #[] #[]] 91)) := (hb2.block _ (Array.getElem?_eq_some_iff.1 Hl1.out).1).trans Hl1.out
  clear y0 y1 y2 y3 y4 hb2 HB1 Hl1
  by_cases hnr : (near2 (CX - X) && near2 (CZ - Z)) = true
  case neg =>
    rw [if_neg hnr]
    have hF : F = none := by rw [Hfe.out]; exact if_neg (fun q => hnr (by rw [q.2.1, q.2.2.1]; rfl))
    have R := HP.out (.returned (.tuple #[.nilIface, .bool false])) (W2.alloc (.cells #[.int .i64 0, .int .i64 0, .int .i64 0, .int .i64 0] 124)) (by rw [hF]; exact ⟨_, rfl, fun _ q => by cases q⟩) (HB2.out.alloc HB2.out.size _)
    clear HP Hfe HB2 Hl2 hF hen
    go_wp2
    exact R
  rw [if_pos hnr]
  rw [Bool.and_eq_true] at hnr
  generalize gAt cx cz hs CX CZ = gh at *
  generalize gAt cx cz bs CX CZ = gb at *
  generalize CX - X = px at *
  generalize CZ - Z = pz at *
  have hon := fun w => lampOn_c h px pz gh gb w
  have HF : Hid (∀ b, standB 1 h gh gb = b → FeatSay F (.returned (.tuple #[.iface 128 (soilV px pz gh gb), .bool b]))) := fun b q => by
    by_cases hst : standB 1 h gh gb = true
    · have hF : F = some ⟨1, px, pz, gh, gb, lenT h⟩ := by rw [Hfe.out]; exact if_pos ⟨hbl, hnr.1, hnr.2, hst⟩
      rw [hF, ← q]
      exact ⟨_, by rw [hst]; rfl, fun x e => by injection e with e; subst e; rfl⟩
    · have hF : F = none := by rw [Hfe.out]; exact if_neg (fun q => hst q.2.2.2)
      rw [hF, ← q]
      exact ⟨_, by rw [show standB 1 h gh gb = false by simpa using hst]; rfl, fun _ e => by cases e⟩
  have HB3 : Hid (Below w.heap.size w (W2.alloc (.cells #[.int .i64 px, .int .i64 pz, .int .i64 gh, .int .i64 gb] 124))) := HB2.out.alloc HB2.out.size _
  have v5 : W2.cell? ⟨w.heap.size + 1, 5, none⟩ = some (.func (.func 57) #[] #[]) := (cell_of_row W2 _ 5 _ 91 (0, 0) Hl2.out).trans rfl
  have v5' : (W2.alloc (.cells #[.int .i64 px, .int .i64 pz, .int .i64 gh, .int .i64 gb] 124)).cell? ⟨w.heap.size + 1, 5, none⟩ = some (.func (.func 57) #[] #[]) := by
    have := (heap_alloc_old W2 (.cells #[.int .i64 px, .int .i64 pz, .int .i64 gh, .int .i64 gb] 124) (Array.getElem?_eq_some_iff.1 Hl2.out).1).trans Hl2.out
    exact (cell_of_row _ _ 5 _ 91 (0, 0) this).trans rfl
  clear Hfe HB2 Hl2 hnr hbl
  go_wp2_with fail
  refine (hon _).mono ?_
  clear hon
  rintro _ W3 ⟨rfl, hb3⟩
  have R := HP.out _ W3 (HF.out _ rfl) (HB3.out.trans (hb3.mono HB3.out.size))
  clear HP HF HB3 hb3
  go_wp2
  exact R
set_option maxHeartbeats 2000000 in
theorem feature_2 (S : Nat) (cx cz ox oz : Int) (a a' : Option Addr) (c c' : Nat) (hs bs : List (List Int)) (w : World) (hS : S < 18446744073709551616) (hx : Far 1099511627776 ox) (hz : Far 1099511627776 oz) (hcx : Far 1073741825 cx) (hcz : Far 1073741825 cz) (hH : Rows2 w a hs) (hB : Rows2 w a' bs) (oH : okG 128 hs) (oB : okG 4 bs) :
    Calls Try.prog 61 #[.agg (landA (cx * 16) (cz * 16) a a' c c'), .int .u64 S, .agg (scA 2), .int .i64 ox, .int .i64 oz] w fun e w' => FeatSay (featO S 2 cx cz hs bs ox oz) e ∧ Below w.heap.size w w' := by
  obtain ⟨Post, hPost⟩ : ∃ Post : Ending → World → Prop, Post = fun e w' => FeatSay (featO S 2 cx cz hs bs ox oz) e ∧ Below w.heap.size w w' := ⟨_, rfl⟩
  rw [← hPost]
  have HP : Hid (∀ e w', FeatSay (featO S 2 cx cz hs bs ox oz) e → Below w.heap.size w w' → Post e w') := fun e w' h1 h2 => by rw [hPost]; exact ⟨h1, h2⟩
  clear hPost
  unfold featO at HP
  have hcol := fun w => column_2 S ox oz w hS hx hz
  generalize hT S 2 ox oz = h at *
  have q1 := colX_bd 2 h ox
  have q2 := colZ_bd 2 h oz
  have q3 : side 2 = 8 := rfl
  rw [q3] at q1 q2
  unfold Far at hx hz
  have HSo : Hid (∀ w', Below w.heap.size w w' → Calls Try.prog 76 #[.agg (landA (cx * 16) (cz * 16) a a' c c'), .int .i64 (colX 2 h ox), .int .i64 (colZ 2 h oz)] w' fun e w'' => e = soilSay cx cz hs bs (colX 2 h ox) (colZ 2 h oz) ∧ Below w'.heap.size w' w'') := fun w' hb =>
    soil_c cx cz _ _ a a' c c' hs bs w' (by unfold Far; omega) (by unfold Far; omega) hcx hcz (hH.on hb) (hB.on hb) oH oB
  clear q1 q2 q3 hH hB oH oB hcx hcz hx hz
  have Hfe : Hid (featH 2 h cx cz hs bs ox oz = if belowN h 100 < some_ 2 ∧ near2 (colX 2 h ox - cx * 16) = true ∧ near2 (colZ 2 h oz - cz * 16) = true ∧ standB 2 h (gAt cx cz hs (colX 2 h ox) (colZ 2 h oz)) (gAt cx cz bs (colX 2 h ox) (colZ 2 h oz)) = true then some ⟨2, colX 2 h ox - cx * 16, colZ 2 h oz - cz * 16, gAt cx cz hs (colX 2 h ox) (colZ 2 h oz), gAt cx cz bs (colX 2 h ox) (colZ 2 h oz), lenT h⟩ else none) := rfl
  have Hss : Hid (∀ x z, soilSay cx cz hs bs x z = if (near2 (x - cx * 16) && near2 (z - cz * 16)) = true then .returned (.tuple #[soilV (x - cx * 16) (z - cz * 16) (gAt cx cz hs x z) (gAt cx cz bs x z), .bool true]) else .returned (.tuple #[soilV 0 0 0 0, .bool false])) := fun _ _ => rfl
  unfold colSay at hcol
  generalize colX 2 h ox = CX at *
  generalize colZ 2 h oz = CZ at *
  generalize featH 2 h cx cz hs bs ox oz = F at *
  generalize cx * 16 = X at *
  generalize cz * 16 = Z at *
  have hen : ∀ args w, (callFunc 58 args).run Try.prog w = .ok (.enter 58 args) w := enters_of Try.func58 (by kernel_rfl) rfl
  show Calls Try.prog 61 #[.agg (landA X Z a a' c c'), .int .u64 S, .agg #[.int .i64 40, .int .i64 70, .int .i64 8, .int .i64 0, .int .i64 3, .func (.func 58) #[] #[]], .int .i64 ox, .int .i64 oz] w Post
  replace hcol : ∀ w, Calls Try.prog 75 #[.agg #[.int .i64 40, .int .i64 70, .int .i64 8, .int .i64 0, .int .i64 3, .func (.func 58) #[] #[]], .int .u64 S, .int .i64 ox, .int .i64 oz] w fun e w' => (e = if belowN h 100 < some_ 2 then .returned (.tuple #[.int .i64 CX, .int .i64 CZ, .int .u64 (h : Int), .bool true]) else .returned (.tuple #[.int .i64 0, .int .i64 0, .int .u64 0, .bool false])) ∧ Below w.heap.size w w' := hcol
  obtain ⟨W, hW⟩ : ∃ W, W = (w.alloc (.cells (landA X Z a a' c c') 65)).alloc (.cells #[.int .i64 40, .int .i64 70, .int .i64 8, .int .i64 0, .int .i64 3, .func (.func 58) #[] #[]] 91) := ⟨_, rfl⟩
  obtain ⟨hbel, k0, k1⟩ := two_al hW
  have HK : Hid (Below w.heap.size w W ∧ W.heap[w.heap.size]? = some (.cells (landA X Z a a' c c') 65) ∧ W.heap[w.heap.size + 1]? = some (.cells #[.int .i64 40, .int .i64 70, .int .i64 8, .int .i64 0, .int .i64 3, .func (.func 58) #[] #[]] 91)) := ⟨hbel, k0, k1⟩
  have HW : Hid (W = (w.alloc (.cells (landA X Z a a' c c') 65)).alloc (.cells #[.int .i64 40, .int .i64 70, .int .i64 8, .int .i64 0, .int .i64 3, .func (.func 58) #[] #[]] 91)) := hW
  clear hbel k0 k1 hW
  go_enter Try.func61, Try.ntmps61
  go_wp2_with fail
  rw [← HW.out]
  clear HW
  refine (hcol _).mono ?_
  clear hcol
  rintro _ W1 ⟨rfl, hb1⟩
  have HB1 : Hid (Below w.heap.size w W1) := HK.out.1.trans (hb1.mono HK.out.1.size)
  have l0 : W1.heap[w.heap.size]? = some (.cells (landA X Z a a' c c') 65) := (hb1.block _ (Array.getElem?_eq_some_iff.1 HK.out.2.1).1).trans HK.out.2.1
  have l1 : W1.heap[w.heap.size + 1]? = some (.cells #[.int .i64 40, .int .i64 70, .int .i64 8, .int .i64 0, .int .i64 3, .func (.func 58) #[] #[]] 91) := (hb1.block _ (Array.getElem?_eq_some_iff.1 HK.out.2.2).1).trans HK.out.2.2
  clear HK hb1
  by_cases hbl : belowN h 100 < some_ 2
  case neg =>
    rw [if_neg hbl]
    have hF : F = none := by rw [Hfe.out]; exact if_neg (fun q => hbl q.1)
    have R := HP.out (.returned (.tuple #[.nilIface, .bool false])) W1 (by rw [hF]; exact ⟨_, rfl, fun _ q => by cases q⟩) HB1.out
    clear HP HSo Hfe Hss HB1 l0 l1 hF hen
    go_wp2
    exact R
  rw [if_pos hbl]
  have y0 : W1.cell? ⟨w.heap.size, 0, none⟩ = some (.int .i64 X) := (cell_of_row W1 _ 0 _ 65 (0, 0) l0).trans rfl
  have y1 : W1.cell? ⟨w.heap.size, 1, none⟩ = some (.int .i64 0) := (cell_of_row W1 _ 1 _ 65 (0, 0) l0).trans rfl
  have y2 : W1.cell? ⟨w.heap.size, 2, none⟩ = some (.int .i64 Z) := (cell_of_row W1 _ 2 _ 65 (0, 0) l0).trans rfl
  have y3 : W1.cell? ⟨w.heap.size, 3, none⟩ = some (.slice a 9 c) := (cell_of_row W1 _ 3 _ 65 (0, 0) l0).trans rfl
  have y4 : W1.cell? ⟨w.heap.size, 4, none⟩ = some (.slice a' 9 c') := (cell_of_row W1 _ 4 _ 65 (0, 0) l0).trans rfl
  have Hl1 : Hid (W1.heap[w.heap.size + 1]? = some (.cells #[.int .i64 40, .int .i64 70, .int .i64 8, .int .i64 0, .int .i64 3, .func (.func 58) #[] #[]] 91)) := l1
  have hso := HSo.out W1 HB1.out
  rw [Hss.out] at hso
  clear HSo l0 l1 Hss
  go_wp2_with fail
  refine hso.mono ?_
  clear hso
  rintro _ W2 ⟨rfl, hb2⟩
  have HB2 : Hid (Below w.heap.size w W2) := HB1.out.trans (hb2.mono HB1.out.size)
  have Hl2 : Hid (W2.heap[w.heap.size + 1]? = some (.cells #[.int .i64 40, .int .i64 70, .int .i64 8, .int .i64 0, .int .i64 3, .func (.func 58) #[] #[]] 91)) := (hb2.block _ (Array.getElem?_eq_some_iff.1 Hl1.out).1).trans Hl1.out
  clear y0 y1 y2 y3 y4 hb2 HB1 Hl1
  by_cases hnr : (near2 (CX - X) && near2 (CZ - Z)) = true
  case neg =>
    rw [if_neg hnr]
    have hF : F = none := by rw [Hfe.out]; exact if_neg (fun q => hnr (by rw [q.2.1, q.2.2.1]; rfl))
    have R := HP.out (.returned (.tuple #[.nilIface, .bool false])) (W2.alloc (.cells #[.int .i64 0, .int .i64 0, .int .i64 0, .int .i64 0] 124)) (by rw [hF]; exact ⟨_, rfl, fun _ q => by cases q⟩) (HB2.out.alloc HB2.out.size _)
    clear HP Hfe HB2 Hl2 hF hen
    go_wp2
    exact R
  rw [if_pos hnr]
  rw [Bool.and_eq_true] at hnr
  generalize gAt cx cz hs CX CZ = gh at *
  generalize gAt cx cz bs CX CZ = gb at *
  generalize CX - X = px at *
  generalize CZ - Z = pz at *
  have hon := fun w => treeOn_c h px pz gh gb w
  have HF : Hid (∀ b, standB 2 h gh gb = b → FeatSay F (.returned (.tuple #[.iface 130 (treeV px pz gh gb (lenT h)), .bool b]))) := fun b q => by
    by_cases hst : standB 2 h gh gb = true
    · have hF : F = some ⟨2, px, pz, gh, gb, lenT h⟩ := by rw [Hfe.out]; exact if_pos ⟨hbl, hnr.1, hnr.2, hst⟩
      rw [hF, ← q]
      exact ⟨_, by rw [hst]; rfl, fun x e => by injection e with e; subst e; rfl⟩
    · have hF : F = none := by rw [Hfe.out]; exact if_neg (fun q => hst q.2.2.2)
      rw [hF, ← q]
      exact ⟨_, by rw [show standB 2 h gh gb = false by simpa using hst]; rfl, fun _ e => by cases e⟩
  have HB3 : Hid (Below w.heap.size w (W2.alloc (.cells #[.int .i64 px, .int .i64 pz, .int .i64 gh, .int .i64 gb] 124))) := HB2.out.alloc HB2.out.size _
  have v5 : W2.cell? ⟨w.heap.size + 1, 5, none⟩ = some (.func (.func 58) #[] #[]) := (cell_of_row W2 _ 5 _ 91 (0, 0) Hl2.out).trans rfl
  have v5' : (W2.alloc (.cells #[.int .i64 px, .int .i64 pz, .int .i64 gh, .int .i64 gb] 124)).cell? ⟨w.heap.size + 1, 5, none⟩ = some (.func (.func 58) #[] #[]) := by
    have := (heap_alloc_old W2 (.cells #[.int .i64 px, .int .i64 pz, .int .i64 gh, .int .i64 gb] 124) (Array.getElem?_eq_some_iff.1 Hl2.out).1).trans Hl2.out
    exact (cell_of_row _ _ 5 _ 91 (0, 0) this).trans rfl
  clear Hfe HB2 Hl2 hnr hbl
  go_wp2_with fail
  refine (hon _).mono ?_
  clear hon
  rintro _ W3 ⟨rfl, hb3⟩
  have R := HP.out _ W3 (HF.out _ rfl) (HB3.out.trans (hb3.mono HB3.out.size))
  clear HP HF HB3 hb3
  go_wp2
  exact R
theorem feature_c (S s : Nat) (cx cz ox oz : Int) (a a' : Option Addr) (c c' : Nat) (hs bs : List (List Int)) (w : World) (h3 : s < 3) (hS : S < 18446744073709551616) (hx : Far 1099511627776 ox) (hz : Far 1099511627776 oz) (hcx : Far 1073741825 cx) (hcz : Far 1073741825 cz) (hH : Rows2 w a hs) (hB : Rows2 w a' bs) (oH : okG 128 hs) (oB : okG 4 bs) :
    Calls Try.prog 61 #[.agg (landA (cx * 16) (cz * 16) a a' c c'), .int .u64 S, .agg (scA s), .int .i64 ox, .int .i64 oz] w fun e w' => FeatSay (featO S s cx cz hs bs ox oz) e ∧ Below w.heap.size w w' := by
  have h3 : s = 0 ∨ s = 1 ∨ s = 2 := by omega
  rcases h3 with rfl | rfl | rfl
  · exact feature_0 S cx cz ox oz a a' c c' hs bs w hS hx hz hcx hcz hH hB oH oB
  · exact feature_1 S cx cz ox oz a a' c c' hs bs w hS hx hz hcx hcz hH hB oH oB
  · exact feature_2 S cx cz ox oz a a' c c' hs bs w hS hx hz hcx hcz hH hB oH oB
end Go.Proofs.Ytbdjgaagafnfaaa