/-
  The laws' Scape: the cells of a box along z.
-/
import Derived.Test.YtjeapaojbkicmabDoorLscp8
set_option maxRecDepth 20000
namespace Go.Proofs.YtjeapaojbkicmabDoor
open C Go.RowKit L

def boxZ (F : Nat → Nat → Nat → Int) (x0 X z0 Z y : Nat) (v : Int) : Nat → Nat → Nat → Int := fun x' z' y' => if (x0 ≤ x' ∧ x' < X) ∧ (z0 ≤ z' ∧ z' < Z) ∧ y' = y then v else F x' z' y'
theorem boxZ_start (F : Nat → Nat → Nat → Int) (x0 X z0 y : Nat) (v : Int) : boxZ F x0 X z0 z0 y v = F := by
  funext x' z' y'
  unfold boxZ
  rw [if_neg (by omega)]
theorem boxZ_next (F : Nat → Nat → Nat → Int) (x0 X : Nat) {z0 Z : Nat} (y : Nat) (v : Int) (h : z0 ≤ Z) : boxX (boxZ F x0 X z0 Z y v) x0 X Z y v = boxZ F x0 X z0 (Z + 1) y v := by
  funext x' z' y'
  unfold boxX boxZ
  by_cases e : x0 ≤ x' ∧ x' < X ∧ z' = Z ∧ y' = y
  · rw [if_pos e, if_pos (by omega)]
  · rw [if_neg e]
    by_cases e2 : (x0 ≤ x' ∧ x' < X) ∧ (z0 ≤ z' ∧ z' < Z) ∧ y' = y
    · rw [if_pos e2, if_pos (by omega)]
    · rw [if_neg e2, if_neg (by omega)]
set_option maxRecDepth 1000000 in
set_option maxHeartbeats 8000000 in
theorem scp_loop6 (Q : Exit → Act → World → Prop) {c1 c2 c4 c7 c13 c14 c15 c16 c17 c18 c19 c20 c21 c22 c23 c24 c25 c26 c27 c28 c29 c30 c31 c32 c33 c34 c35 c36 c37 c38 c39 c40 c41 c42 c43 c44 c45 c46 c47 c48 c49 c50 c51 c52 c53 c54 c55 c56 c57 c58 c59 c60 c61 c62 c63 c64 c65 c66 c67 c68 c69 c70 c71 c72 c73 c127 v12 v74 v75 v76 v77 v78 v79 v80 v81 v82 v83 v84 v85 v86 v87 v88 v89 v90 v91 v92 v93 v94 v95 v96 v97 v98 v99 v100 v101 v102 v103 v104 v105 v106 v107 v108 v109 v110 v111 v112 v113 v114 v115 v116 v117 v118 v119 v120 v121 v122 v123 v124 v125 v126 : Value} (e : ScE) (o : ScO e) (F : Nat → Nat → Nat → Int) (lb lo n lc cv i x0 y z0 : Nat) (v : Int) (p : Nat → Int) (hi : i < n) (hx0 : x0 < 48) (hy : y < 128) (hz : z0 < 48)
    (hlb : ∀ j, j < 9 → lb ≠ e.gs j) (hc : ∀ f, f < 7 → e.w0.cell? ⟨lb, lo + i * 7 + f, none⟩ = some (.int .i64 (p f))) (W : World) (h0 : ScX e F W)
    (hexit : ∀ (u11 u12 u74 u75 u76 u77 u78 u79 u80 u81 u82 u83 u84 u85 u86 u87 u88 u89 u90 u91 u92 u93 u94 u95 u96 u97 u98 u99 u100 u101 u102 u103 u104 u105 u106 u107 u108 u109 u110 u111 u112 u113 u114 u115 u116 u117 u118 u119 u120 u121 u122 u123 u124 u125 u126 : Value) (W' : World), ScX e (boxZ F x0 (min 48 (x0 + (p 3 % 48).toNat + 1)) z0 (min 48 (z0 + (p 5 % 48).toNat + 1)) y v) W' → Q (.exit 6) ⟨List.toArray ((.slice (some ⟨lb, lo, none⟩) n lc) :: c1 :: c2 :: (.slice (some ⟨e.b, 0, none⟩) 9 cv) :: c4 :: (.int .i64 (i : Int)) :: (.int .i64 (x0 : Int)) :: c7 :: (.int .i64 (z0 : Int)) :: (.int .u8 v) :: (.int .i64 (y : Int)) :: u11 :: u12 :: c13 :: c14 :: c15 :: c16 :: c17 :: c18 :: c19 :: c20 :: c21 :: c22 :: c23 :: c24 :: c25 :: c26 :: c27 :: c28 :: c29 :: c30 :: c31 :: c32 :: c33 :: c34 :: c35 :: c36 :: c37 :: c38 :: c39 :: c40 :: c41 :: c42 :: c43 :: c44 :: c45 :: c46 :: c47 :: c48 :: c49 :: c50 :: c51 :: c52 :: c53 :: c54 :: c55 :: c56 :: c57 :: c58 :: c59 :: c60 :: c61 :: c62 :: c63 :: c64 :: c65 :: c66 :: c67 :: c68 :: c69 :: c70 :: c71 :: c72 :: c73 :: u74 :: u75 :: u76 :: u77 :: u78 :: u79 :: u80 :: u81 :: u82 :: u83 :: u84 :: u85 :: u86 :: u87 :: u88 :: u89 :: u90 :: u91 :: u92 :: u93 :: u94 :: u95 :: u96 :: u97 :: u98 :: u99 :: u100 :: u101 :: u102 :: u103 :: u104 :: u105 :: u106 :: u107 :: u108 :: u109 :: u110 :: u111 :: u112 :: u113 :: u114 :: u115 :: u116 :: u117 :: u118 :: u119 :: u120 :: u121 :: u122 :: u123 :: u124 :: u125 :: u126 :: c127 :: []), []⟩ W') :
    Code.wp Tryd.prog ((Tryd.f5.body.bind (blkOf 6)).getD .skip) Q ⟨List.toArray ((.slice (some ⟨lb, lo, none⟩) n lc) :: c1 :: c2 :: (.slice (some ⟨e.b, 0, none⟩) 9 cv) :: c4 :: (.int .i64 (i : Int)) :: (.int .i64 (x0 : Int)) :: c7 :: (.int .i64 (z0 : Int)) :: (.int .u8 v) :: (.int .i64 (y : Int)) :: (.int .i64 (z0 : Int)) :: v12 :: c13 :: c14 :: c15 :: c16 :: c17 :: c18 :: c19 :: c20 :: c21 :: c22 :: c23 :: c24 :: c25 :: c26 :: c27 :: c28 :: c29 :: c30 :: c31 :: c32 :: c33 :: c34 :: c35 :: c36 :: c37 :: c38 :: c39 :: c40 :: c41 :: c42 :: c43 :: c44 :: c45 :: c46 :: c47 :: c48 :: c49 :: c50 :: c51 :: c52 :: c53 :: c54 :: c55 :: c56 :: c57 :: c58 :: c59 :: c60 :: c61 :: c62 :: c63 :: c64 :: c65 :: c66 :: c67 :: c68 :: c69 :: c70 :: c71 :: c72 :: c73 :: v74 :: v75 :: v76 :: v77 :: v78 :: v79 :: v80 :: v81 :: v82 :: v83 :: v84 :: v85 :: v86 :: v87 :: v88 :: v89 :: v90 :: v91 :: v92 :: v93 :: v94 :: v95 :: v96 :: v97 :: v98 :: v99 :: v100 :: v101 :: v102 :: v103 :: v104 :: v105 :: v106 :: v107 :: v108 :: v109 :: v110 :: v111 :: v112 :: v113 :: v114 :: v115 :: v116 :: v117 :: v118 :: v119 :: v120 :: v121 :: v122 :: v123 :: v124 :: v125 :: v126 :: c127 :: []), []⟩ W := by
  obtain ⟨d, hd⟩ : ∃ d : Nat, (p 5 % 48).toNat = d := ⟨_, rfl⟩
  have hd' : p 5 % 48 = (d : Int) := by omega
  have hd47 : d < 48 := by omega
  obtain ⟨M, hM⟩ : ∃ M, min 48 (z0 + (p 5 % 48).toNat + 1) = M := ⟨_, rfl⟩
  rw [hM] at hexit
  rw [hd] at hM
  have HX : Hid (∀ (u11 u12 u74 u75 u76 u77 u78 u79 u80 u81 u82 u83 u84 u85 u86 u87 u88 u89 u90 u91 u92 u93 u94 u95 u96 u97 u98 u99 u100 u101 u102 u103 u104 u105 u106 u107 u108 u109 u110 u111 u112 u113 u114 u115 u116 u117 u118 u119 u120 u121 u122 u123 u124 u125 u126 : Value) (W' : World), ScX e (boxZ F x0 (min 48 (x0 + (p 3 % 48).toNat + 1)) z0 M y v) W' → Q (.exit 6) ⟨List.toArray ((.slice (some ⟨lb, lo, none⟩) n lc) :: c1 :: c2 :: (.slice (some ⟨e.b, 0, none⟩) 9 cv) :: c4 :: (.int .i64 (i : Int)) :: (.int .i64 (x0 : Int)) :: c7 :: (.int .i64 (z0 : Int)) :: (.int .u8 v) :: (.int .i64 (y : Int)) :: u11 :: u12 :: c13 :: c14 :: c15 :: c16 :: c17 :: c18 :: c19 :: c20 :: c21 :: c22 :: c23 :: c24 :: c25 :: c26 :: c27 :: c28 :: c29 :: c30 :: c31 :: c32 :: c33 :: c34 :: c35 :: c36 :: c37 :: c38 :: c39 :: c40 :: c41 :: c42 :: c43 :: c44 :: c45 :: c46 :: c47 :: c48 :: c49 :: c50 :: c51 :: c52 :: c53 :: c54 :: c55 :: c56 :: c57 :: c58 :: c59 :: c60 :: c61 :: c62 :: c63 :: c64 :: c65 :: c66 :: c67 :: c68 :: c69 :: c70 :: c71 :: c72 :: c73 :: u74 :: u75 :: u76 :: u77 :: u78 :: u79 :: u80 :: u81 :: u82 :: u83 :: u84 :: u85 :: u86 :: u87 :: u88 :: u89 :: u90 :: u91 :: u92 :: u93 :: u94 :: u95 :: u96 :: u97 :: u98 :: u99 :: u100 :: u101 :: u102 :: u103 :: u104 :: u105 :: u106 :: u107 :: u108 :: u109 :: u110 :: u111 :: u112 :: u113 :: u114 :: u115 :: u116 :: u117 :: u118 :: u119 :: u120 :: u121 :: u122 :: u123 :: u124 :: u125 :: u126 :: c127 :: []), []⟩ W') := hexit
  have H0 : Hid (ScX e (boxZ F x0 (min 48 (x0 + (p 3 % 48).toNat + 1)) z0 z0 y v) W) := by rw [boxZ_start]; exact h0
  have HO : Hid (ScO e ∧ (∀ j, j < 9 → lb ≠ e.gs j) ∧ ∀ f, f < 7 → e.w0.cell? ⟨lb, lo + i * 7 + f, none⟩ = some (.int .i64 (p f))) := ⟨o, hlb, hc⟩
  have hred := fun w => reduced_c (p 5) 48 (by omega) (by omega) w
  rw [hd'] at hred
  have hin : (i : Int) < (n : Int) := by omega
  have hM1 : M ≤ 48 ∧ M ≤ z0 + d + 1 ∧ (M = 48 ∨ M = z0 + d + 1) ∧ z0 ≤ M := by omega
  clear h0 hexit o hlb hc hd hd' hM
  conv => arg 2; whnf
  go_loopw [11] (fun vx wr => ∃ X : Nat, z0 ≤ X ∧ X ≤ M ∧ vx = .int .i64 (X : Int) ∧ Hid (ScX e (boxZ F x0 (min 48 (x0 + (p 3 % 48).toNat + 1)) z0 X y v) wr)) (fun vx _ => 48 - (intOf vx).toNat)
  case atStart => exact ⟨z0, by omega, by omega, rfl, H0⟩
  case round =>
    clear H0
    obtain ⟨X, hX0, hXM, rfl, HS⟩ := hrel
    have cpt : wr.cell? ⟨lb, lo + i * 7 + 5, none⟩ = some (.int .i64 (p 5)) := by
      obtain ⟨css, hS⟩ := HS.out
      exact (hS.cell (p := ⟨lb, lo + i * 7 + 5, none⟩) HO.out.2.1).trans (HO.out.2.2 5 (by omega))
    have wx : IntKind.i64.wrap ((z0 : Int) + (d : Int)) = ((z0 + d : Nat) : Int) := by rw [IntKind.wrap_i64]; omega
    go_wp2_with fail
    refine (hred _).mono ?_
    rintro _ w5 ⟨rfl, hw⟩
    replace hw := hw.symm
    subst hw
    clear hred
    by_cases hle : X ≤ z0 + d
    case neg =>
      have hle' : ¬ (X : Int) ≤ ((z0 + d : Nat) : Int) := by omega
      have HE : Hid (ScX e (boxZ F x0 (min 48 (x0 + (p 3 % 48).toNat + 1)) z0 M y v) wr) := by
        obtain rfl : X = M := by omega
        exact HS.out
      clear HS HO
      go_wp2
      exact HX.out _ _ _ _ _ _ _ _ _ _ _ _ _ _ _ _ _ _ _ _ _ _ _ _ _ _ _ _ _ _ _ _ _ _ _ _ _ _ _ _ _ _ _ _ _ _ _ _ _ _ _ _ _ _ _ _ HE.out
    have hle' : (X : Int) ≤ ((z0 + d : Nat) : Int) := by omega
    by_cases hlt : X < 48
    case neg =>
      have hlt' : ¬ (X : Int) < 48 := by omega
      have HE : Hid (ScX e (boxZ F x0 (min 48 (x0 + (p 3 % 48).toNat + 1)) z0 M y v) wr) := by
        obtain rfl : X = M := by omega
        exact HS.out
      clear HS HO
      go_wp2
      exact HX.out _ _ _ _ _ _ _ _ _ _ _ _ _ _ _ _ _ _ _ _ _ _ _ _ _ _ _ _ _ _ _ _ _ _ _ _ _ _ _ _ _ _ _ _ _ _ _ _ _ _ _ _ _ _ _ _ HE.out
    have hlt' : (X : Int) < 48 := by omega
    clear HX cpt
    go_wp2_with fail
    refine scp_loop8 _ e HO.out.1 (boxZ F x0 (min 48 (x0 + (p 3 % 48).toNat + 1)) z0 X y v) lb lo n lc cv i x0 y X v (p 3) hi hx0 hy hlt HO.out.2.1 (HO.out.2.2 3 (by omega)) wr HS.out ?_
    intro q12 q91 q92 q93 q94 q95 q96 q97 q98 q99 q100 q101 q102 q103 q104 q105 q106 q107 q108 q109 q110 q111 q112 q113 q114 q115 q116 q117 q118 q119 q120 q121 q122 q123 q124 q125 q126 W' hE
    have HE : Hid (ScX e (boxZ F x0 (min 48 (x0 + (p 3 % 48).toNat + 1)) z0 (X + 1) y v) W') := by
      rw [boxZ_next F x0 (min 48 (x0 + (p 3 % 48).toNat + 1)) y v hX0] at hE
      exact hE
    clear hE HS HO
    go_wp2
    exact ⟨⟨X + 1, by omega, by omega, by simp, HE⟩, by simp [intOf]; omega⟩
end Go.Proofs.YtjeapaojbkicmabDoor
