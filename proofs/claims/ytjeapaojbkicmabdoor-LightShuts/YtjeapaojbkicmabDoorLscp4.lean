/-
  The laws' Scape: the cells of a box along y.
-/
import Derived.Test.YtjeapaojbkicmabDoorLscp6
set_option maxRecDepth 20000
namespace Go.Proofs.YtjeapaojbkicmabDoor
open C Go.RowKit L

def boxY (F : Nat → Nat → Nat → Int) (x0 X z0 Z y0 Y : Nat) (v : Int) : Nat → Nat → Nat → Int := fun x' z' y' => if (x0 ≤ x' ∧ x' < X) ∧ (z0 ≤ z' ∧ z' < Z) ∧ (y0 ≤ y' ∧ y' < Y) then v else F x' z' y'
theorem boxY_start (F : Nat → Nat → Nat → Int) (x0 X z0 Z y0 : Nat) (v : Int) : boxY F x0 X z0 Z y0 y0 v = F := by
  funext x' z' y'
  unfold boxY
  rw [if_neg (by omega)]
theorem boxY_next (F : Nat → Nat → Nat → Int) (x0 X z0 Z : Nat) {y0 Y : Nat} (v : Int) (h : y0 ≤ Y) : boxZ (boxY F x0 X z0 Z y0 Y v) x0 X z0 Z Y v = boxY F x0 X z0 Z y0 (Y + 1) v := by
  funext x' z' y'
  unfold boxZ boxY
  by_cases e : (x0 ≤ x' ∧ x' < X) ∧ (z0 ≤ z' ∧ z' < Z) ∧ y' = Y
  · rw [if_pos e, if_pos (by omega)]
  · rw [if_neg e]
    by_cases e2 : (x0 ≤ x' ∧ x' < X) ∧ (z0 ≤ z' ∧ z' < Z) ∧ (y0 ≤ y' ∧ y' < Y)
    · rw [if_pos e2, if_pos (by omega)]
    · rw [if_neg e2, if_neg (by omega)]
set_option maxRecDepth 1000000 in
set_option maxHeartbeats 8000000 in
theorem scp_loop4 (Q : Exit → Act → World → Prop) {c1 c2 c4 c13 c14 c15 c16 c17 c18 c19 c20 c21 c22 c23 c24 c25 c26 c27 c28 c29 c30 c31 c32 c33 c34 c35 c36 c37 c38 c39 c40 c41 c42 c43 c44 c45 c46 c47 c48 c49 c50 c51 c52 c53 c54 c55 c56 c127 v11 v12 v57 v58 v59 v60 v61 v62 v63 v64 v65 v66 v67 v68 v69 v70 v71 v72 v73 v74 v75 v76 v77 v78 v79 v80 v81 v82 v83 v84 v85 v86 v87 v88 v89 v90 v91 v92 v93 v94 v95 v96 v97 v98 v99 v100 v101 v102 v103 v104 v105 v106 v107 v108 v109 v110 v111 v112 v113 v114 v115 v116 v117 v118 v119 v120 v121 v122 v123 v124 v125 v126 : Value} (e : ScE) (o : ScO e) (F : Nat → Nat → Nat → Int) (lb lo n lc cv i x0 y0 z0 : Nat) (v : Int) (p : Nat → Int) (hi : i < n) (hx0 : x0 < 48) (hy : y0 < 128) (hz : z0 < 48)
    (hlb : ∀ j, j < 9 → lb ≠ e.gs j) (hc : ∀ f, f < 7 → e.w0.cell? ⟨lb, lo + i * 7 + f, none⟩ = some (.int .i64 (p f))) (W : World) (h0 : ScX e F W)
    (hexit : ∀ (u10 u11 u12 u57 u58 u59 u60 u61 u62 u63 u64 u65 u66 u67 u68 u69 u70 u71 u72 u73 u74 u75 u76 u77 u78 u79 u80 u81 u82 u83 u84 u85 u86 u87 u88 u89 u90 u91 u92 u93 u94 u95 u96 u97 u98 u99 u100 u101 u102 u103 u104 u105 u106 u107 u108 u109 u110 u111 u112 u113 u114 u115 u116 u117 u118 u119 u120 u121 u122 u123 u124 u125 u126 : Value) (W' : World), ScX e (boxY F x0 (min 48 (x0 + (p 3 % 48).toNat + 1)) z0 (min 48 (z0 + (p 5 % 48).toNat + 1)) y0 (min 128 (y0 + (p 4 % 128).toNat + 1)) v) W' → Q (.exit 4) ⟨List.toArray ((.slice (some ⟨lb, lo, none⟩) n lc) :: c1 :: c2 :: (.slice (some ⟨e.b, 0, none⟩) 9 cv) :: c4 :: (.int .i64 (i : Int)) :: (.int .i64 (x0 : Int)) :: (.int .i64 (y0 : Int)) :: (.int .i64 (z0 : Int)) :: (.int .u8 v) :: u10 :: u11 :: u12 :: c13 :: c14 :: c15 :: c16 :: c17 :: c18 :: c19 :: c20 :: c21 :: c22 :: c23 :: c24 :: c25 :: c26 :: c27 :: c28 :: c29 :: c30 :: c31 :: c32 :: c33 :: c34 :: c35 :: c36 :: c37 :: c38 :: c39 :: c40 :: c41 :: c42 :: c43 :: c44 :: c45 :: c46 :: c47 :: c48 :: c49 :: c50 :: c51 :: c52 :: c53 :: c54 :: c55 :: c56 :: u57 :: u58 :: u59 :: u60 :: u61 :: u62 :: u63 :: u64 :: u65 :: u66 :: u67 :: u68 :: u69 :: u70 :: u71 :: u72 :: u73 :: u74 :: u75 :: u76 :: u77 :: u78 :: u79 :: u80 :: u81 :: u82 :: u83 :: u84 :: u85 :: u86 :: u87 :: u88 :: u89 :: u90 :: u91 :: u92 :: u93 :: u94 :: u95 :: u96 :: u97 :: u98 :: u99 :: u100 :: u101 :: u102 :: u103 :: u104 :: u105 :: u106 :: u107 :: u108 :: u109 :: u110 :: u111 :: u112 :: u113 :: u114 :: u115 :: u116 :: u117 :: u118 :: u119 :: u120 :: u121 :: u122 :: u123 :: u124 :: u125 :: u126 :: c127 :: []), []⟩ W') :
    Code.wp Tryd.prog ((Tryd.f5.body.bind (blkOf 4)).getD .skip) Q ⟨List.toArray ((.slice (some ⟨lb, lo, none⟩) n lc) :: c1 :: c2 :: (.slice (some ⟨e.b, 0, none⟩) 9 cv) :: c4 :: (.int .i64 (i : Int)) :: (.int .i64 (x0 : Int)) :: (.int .i64 (y0 : Int)) :: (.int .i64 (z0 : Int)) :: (.int .u8 v) :: (.int .i64 (y0 : Int)) :: v11 :: v12 :: c13 :: c14 :: c15 :: c16 :: c17 :: c18 :: c19 :: c20 :: c21 :: c22 :: c23 :: c24 :: c25 :: c26 :: c27 :: c28 :: c29 :: c30 :: c31 :: c32 :: c33 :: c34 :: c35 :: c36 :: c37 :: c38 :: c39 :: c40 :: c41 :: c42 :: c43 :: c44 :: c45 :: c46 :: c47 :: c48 :: c49 :: c50 :: c51 :: c52 :: c53 :: c54 :: c55 :: c56 :: v57 :: v58 :: v59 :: v60 :: v61 :: v62 :: v63 :: v64 :: v65 :: v66 :: v67 :: v68 :: v69 :: v70 :: v71 :: v72 :: v73 :: v74 :: v75 :: v76 :: v77 :: v78 :: v79 :: v80 :: v81 :: v82 :: v83 :: v84 :: v85 :: v86 :: v87 :: v88 :: v89 :: v90 :: v91 :: v92 :: v93 :: v94 :: v95 :: v96 :: v97 :: v98 :: v99 :: v100 :: v101 :: v102 :: v103 :: v104 :: v105 :: v106 :: v107 :: v108 :: v109 :: v110 :: v111 :: v112 :: v113 :: v114 :: v115 :: v116 :: v117 :: v118 :: v119 :: v120 :: v121 :: v122 :: v123 :: v124 :: v125 :: v126 :: c127 :: []), []⟩ W := by
  obtain ⟨d, hd⟩ : ∃ d : Nat, (p 4 % 128).toNat = d := ⟨_, rfl⟩
  have hd' : p 4 % 128 = (d : Int) := by omega
  have hd47 : d < 128 := by omega
  obtain ⟨M, hM⟩ : ∃ M, min 128 (y0 + (p 4 % 128).toNat + 1) = M := ⟨_, rfl⟩
  rw [hM] at hexit
  rw [hd] at hM
  have HX : Hid (∀ (u10 u11 u12 u57 u58 u59 u60 u61 u62 u63 u64 u65 u66 u67 u68 u69 u70 u71 u72 u73 u74 u75 u76 u77 u78 u79 u80 u81 u82 u83 u84 u85 u86 u87 u88 u89 u90 u91 u92 u93 u94 u95 u96 u97 u98 u99 u100 u101 u102 u103 u104 u105 u106 u107 u108 u109 u110 u111 u112 u113 u114 u115 u116 u117 u118 u119 u120 u121 u122 u123 u124 u125 u126 : Value) (W' : World), ScX e (boxY F x0 (min 48 (x0 + (p 3 % 48).toNat + 1)) z0 (min 48 (z0 + (p 5 % 48).toNat + 1)) y0 M v) W' → Q (.exit 4) ⟨List.toArray ((.slice (some ⟨lb, lo, none⟩) n lc) :: c1 :: c2 :: (.slice (some ⟨e.b, 0, none⟩) 9 cv) :: c4 :: (.int .i64 (i : Int)) :: (.int .i64 (x0 : Int)) :: (.int .i64 (y0 : Int)) :: (.int .i64 (z0 : Int)) :: (.int .u8 v) :: u10 :: u11 :: u12 :: c13 :: c14 :: c15 :: c16 :: c17 :: c18 :: c19 :: c20 :: c21 :: c22 :: c23 :: c24 :: c25 :: c26 :: c27 :: c28 :: c29 :: c30 :: c31 :: c32 :: c33 :: c34 :: c35 :: c36 :: c37 :: c38 :: c39 :: c40 :: c41 :: c42 :: c43 :: c44 :: c45 :: c46 :: c47 :: c48 :: c49 :: c50 :: c51 :: c52 :: c53 :: c54 :: c55 :: c56 :: u57 :: u58 :: u59 :: u60 :: u61 :: u62 :: u63 :: u64 :: u65 :: u66 :: u67 :: u68 :: u69 :: u70 :: u71 :: u72 :: u73 :: u74 :: u75 :: u76 :: u77 :: u78 :: u79 :: u80 :: u81 :: u82 :: u83 :: u84 :: u85 :: u86 :: u87 :: u88 :: u89 :: u90 :: u91 :: u92 :: u93 :: u94 :: u95 :: u96 :: u97 :: u98 :: u99 :: u100 :: u101 :: u102 :: u103 :: u104 :: u105 :: u106 :: u107 :: u108 :: u109 :: u110 :: u111 :: u112 :: u113 :: u114 :: u115 :: u116 :: u117 :: u118 :: u119 :: u120 :: u121 :: u122 :: u123 :: u124 :: u125 :: u126 :: c127 :: []), []⟩ W') := hexit
  have H0 : Hid (ScX e (boxY F x0 (min 48 (x0 + (p 3 % 48).toNat + 1)) z0 (min 48 (z0 + (p 5 % 48).toNat + 1)) y0 y0 v) W) := by rw [boxY_start]; exact h0
  have HO : Hid (ScO e ∧ (∀ j, j < 9 → lb ≠ e.gs j) ∧ ∀ f, f < 7 → e.w0.cell? ⟨lb, lo + i * 7 + f, none⟩ = some (.int .i64 (p f))) := ⟨o, hlb, hc⟩
  have hred := fun w => reduced_c (p 4) 128 (by omega) (by omega) w
  rw [hd'] at hred
  have hin : (i : Int) < (n : Int) := by omega
  have hM1 : M ≤ 128 ∧ M ≤ y0 + d + 1 ∧ (M = 128 ∨ M = y0 + d + 1) ∧ y0 ≤ M := by omega
  clear h0 hexit o hlb hc hd hd' hM
  conv => arg 2; whnf
  go_loopw [10] (fun vx wr => ∃ X : Nat, y0 ≤ X ∧ X ≤ M ∧ vx = .int .i64 (X : Int) ∧ Hid (ScX e (boxY F x0 (min 48 (x0 + (p 3 % 48).toNat + 1)) z0 (min 48 (z0 + (p 5 % 48).toNat + 1)) y0 X v) wr)) (fun vx _ => 128 - (intOf vx).toNat)
  case atStart => exact ⟨y0, by omega, by omega, rfl, H0⟩
  case round =>
    clear H0
    obtain ⟨X, hX0, hXM, rfl, HS⟩ := hrel
    have cpt : wr.cell? ⟨lb, lo + i * 7 + 4, none⟩ = some (.int .i64 (p 4)) := by
      obtain ⟨css, hS⟩ := HS.out
      exact (hS.cell (p := ⟨lb, lo + i * 7 + 4, none⟩) HO.out.2.1).trans (HO.out.2.2 4 (by omega))
    have wx : IntKind.i64.wrap ((y0 : Int) + (d : Int)) = ((y0 + d : Nat) : Int) := by rw [IntKind.wrap_i64]; omega
    go_wp2_with fail
    refine (hred _).mono ?_
    rintro _ w5 ⟨rfl, hw⟩
    replace hw := hw.symm
    subst hw
    clear hred
    by_cases hle : X ≤ y0 + d
    case neg =>
      have hle' : ¬ (X : Int) ≤ ((y0 + d : Nat) : Int) := by omega
      have HE : Hid (ScX e (boxY F x0 (min 48 (x0 + (p 3 % 48).toNat + 1)) z0 (min 48 (z0 + (p 5 % 48).toNat + 1)) y0 M v) wr) := by
        obtain rfl : X = M := by omega
        exact HS.out
      clear HS HO
      go_wp2
      exact HX.out _ _ _ _ _ _ _ _ _ _ _ _ _ _ _ _ _ _ _ _ _ _ _ _ _ _ _ _ _ _ _ _ _ _ _ _ _ _ _ _ _ _ _ _ _ _ _ _ _ _ _ _ _ _ _ _ _ _ _ _ _ _ _ _ _ _ _ _ _ _ _ _ _ _ HE.out
    have hle' : (X : Int) ≤ ((y0 + d : Nat) : Int) := by omega
    by_cases hlt : X < 128
    case neg =>
      have hlt' : ¬ (X : Int) < 128 := by omega
      have HE : Hid (ScX e (boxY F x0 (min 48 (x0 + (p 3 % 48).toNat + 1)) z0 (min 48 (z0 + (p 5 % 48).toNat + 1)) y0 M v) wr) := by
        obtain rfl : X = M := by omega
        exact HS.out
      clear HS HO
      go_wp2
      exact HX.out _ _ _ _ _ _ _ _ _ _ _ _ _ _ _ _ _ _ _ _ _ _ _ _ _ _ _ _ _ _ _ _ _ _ _ _ _ _ _ _ _ _ _ _ _ _ _ _ _ _ _ _ _ _ _ _ _ _ _ _ _ _ _ _ _ _ _ _ _ _ _ _ _ _ HE.out
    have hlt' : (X : Int) < 128 := by omega
    clear HX cpt
    go_wp2_with fail
    refine scp_loop6 _ e HO.out.1 (boxY F x0 (min 48 (x0 + (p 3 % 48).toNat + 1)) z0 (min 48 (z0 + (p 5 % 48).toNat + 1)) y0 X v) lb lo n lc cv i x0 X z0 v p hi hx0 hlt hz HO.out.2.1 HO.out.2.2 wr HS.out ?_
    intro q11 q12 q74 q75 q76 q77 q78 q79 q80 q81 q82 q83 q84 q85 q86 q87 q88 q89 q90 q91 q92 q93 q94 q95 q96 q97 q98 q99 q100 q101 q102 q103 q104 q105 q106 q107 q108 q109 q110 q111 q112 q113 q114 q115 q116 q117 q118 q119 q120 q121 q122 q123 q124 q125 q126 W' hE
    have HE : Hid (ScX e (boxY F x0 (min 48 (x0 + (p 3 % 48).toNat + 1)) z0 (min 48 (z0 + (p 5 % 48).toNat + 1)) y0 (X + 1) v) W') := by
      rw [boxY_next F x0 (min 48 (x0 + (p 3 % 48).toNat + 1)) z0 (min 48 (z0 + (p 5 % 48).toNat + 1)) v hX0] at hE
      exact hE
    clear hE HS HO
    go_wp2
    exact ⟨⟨X + 1, by omega, by omega, by simp, HE⟩, by simp [intOf]; omega⟩
end Go.Proofs.YtjeapaojbkicmabDoor
