/-
  The laws' Scape: one box behind the other.
-/
import Derived.Test.YtjeapaojbkicmabDoorLscp4
set_option maxRecDepth 20000
namespace Go.Proofs.YtjeapaojbkicmabDoor
open C Go.RowKit L

/-- One part is laid. -/
def partF (p : Nat → Int) (F : Nat → Nat → Nat → Int) : Nat → Nat → Nat → Int :=
  boxY F (p 0 % 48).toNat (min 48 ((p 0 % 48).toNat + (p 3 % 48).toNat + 1)) (p 2 % 48).toNat (min 48 ((p 2 % 48).toNat + (p 5 % 48).toNat + 1)) (p 1 % 128).toNat (min 128 ((p 1 % 128).toNat + (p 4 % 128).toNat + 1)) (p 6 % 17)
def partsF (P : Nat → Nat → Int) (F : Nat → Nat → Nat → Int) : Nat → Nat → Nat → Nat → Int
  | 0 => F
  | i + 1 => partF (P i) (partsF P F i)
set_option maxRecDepth 1000000 in
set_option maxHeartbeats 8000000 in
theorem scp_loop2 (Q : Exit → Act → World → Prop) {c1 c2 c4 c13 c14 c15 c16 c17 c18 c19 c20 c127 v6 v7 v8 v9 v10 v11 v12 v21 v22 v23 v24 v25 v26 v27 v28 v29 v30 v31 v32 v33 v34 v35 v36 v37 v38 v39 v40 v41 v42 v43 v44 v45 v46 v47 v48 v49 v50 v51 v52 v53 v54 v55 v56 v57 v58 v59 v60 v61 v62 v63 v64 v65 v66 v67 v68 v69 v70 v71 v72 v73 v74 v75 v76 v77 v78 v79 v80 v81 v82 v83 v84 v85 v86 v87 v88 v89 v90 v91 v92 v93 v94 v95 v96 v97 v98 v99 v100 v101 v102 v103 v104 v105 v106 v107 v108 v109 v110 v111 v112 v113 v114 v115 v116 v117 v118 v119 v120 v121 v122 v123 v124 v125 v126 : Value} (e : ScE) (o : ScO e) (F : Nat → Nat → Nat → Int) (la : Option Addr) (lb lo n lc cv : Nat) (P : Nat → Nat → Int) (hn : n ≤ 9223372036854775807) (hla : 0 < n → la = some ⟨lb, lo, none⟩)
    (hlb : 0 < n → ∀ j, j < 9 → lb ≠ e.gs j) (hc : ∀ i, i < n → ∀ f, f < 7 → e.w0.cell? ⟨lb, lo + i * 7 + f, none⟩ = some (.int .i64 (P i f))) (W : World) (h0 : ScX e F W)
    (hexit : ∀ (u5 u6 u7 u8 u9 u10 u11 u12 u21 u22 u23 u24 u25 u26 u27 u28 u29 u30 u31 u32 u33 u34 u35 u36 u37 u38 u39 u40 u41 u42 u43 u44 u45 u46 u47 u48 u49 u50 u51 u52 u53 u54 u55 u56 u57 u58 u59 u60 u61 u62 u63 u64 u65 u66 u67 u68 u69 u70 u71 u72 u73 u74 u75 u76 u77 u78 u79 u80 u81 u82 u83 u84 u85 u86 u87 u88 u89 u90 u91 u92 u93 u94 u95 u96 u97 u98 u99 u100 u101 u102 u103 u104 u105 u106 u107 u108 u109 u110 u111 u112 u113 u114 u115 u116 u117 u118 u119 u120 u121 u122 u123 u124 u125 u126 : Value) (W' : World), ScX e (partsF P F (min n 60)) W' → Q (.exit 2) ⟨List.toArray ((.slice la n lc) :: c1 :: c2 :: (.slice (some ⟨e.b, 0, none⟩) 9 cv) :: c4 :: u5 :: u6 :: u7 :: u8 :: u9 :: u10 :: u11 :: u12 :: c13 :: c14 :: c15 :: c16 :: c17 :: c18 :: c19 :: c20 :: u21 :: u22 :: u23 :: u24 :: u25 :: u26 :: u27 :: u28 :: u29 :: u30 :: u31 :: u32 :: u33 :: u34 :: u35 :: u36 :: u37 :: u38 :: u39 :: u40 :: u41 :: u42 :: u43 :: u44 :: u45 :: u46 :: u47 :: u48 :: u49 :: u50 :: u51 :: u52 :: u53 :: u54 :: u55 :: u56 :: u57 :: u58 :: u59 :: u60 :: u61 :: u62 :: u63 :: u64 :: u65 :: u66 :: u67 :: u68 :: u69 :: u70 :: u71 :: u72 :: u73 :: u74 :: u75 :: u76 :: u77 :: u78 :: u79 :: u80 :: u81 :: u82 :: u83 :: u84 :: u85 :: u86 :: u87 :: u88 :: u89 :: u90 :: u91 :: u92 :: u93 :: u94 :: u95 :: u96 :: u97 :: u98 :: u99 :: u100 :: u101 :: u102 :: u103 :: u104 :: u105 :: u106 :: u107 :: u108 :: u109 :: u110 :: u111 :: u112 :: u113 :: u114 :: u115 :: u116 :: u117 :: u118 :: u119 :: u120 :: u121 :: u122 :: u123 :: u124 :: u125 :: u126 :: c127 :: []), []⟩ W') :
    Code.wp Tryd.prog ((Tryd.f5.body.bind (blkOf 2)).getD .skip) Q ⟨List.toArray ((.slice la n lc) :: c1 :: c2 :: (.slice (some ⟨e.b, 0, none⟩) 9 cv) :: c4 :: (.int .i64 0) :: v6 :: v7 :: v8 :: v9 :: v10 :: v11 :: v12 :: c13 :: c14 :: c15 :: c16 :: c17 :: c18 :: c19 :: c20 :: v21 :: v22 :: v23 :: v24 :: v25 :: v26 :: v27 :: v28 :: v29 :: v30 :: v31 :: v32 :: v33 :: v34 :: v35 :: v36 :: v37 :: v38 :: v39 :: v40 :: v41 :: v42 :: v43 :: v44 :: v45 :: v46 :: v47 :: v48 :: v49 :: v50 :: v51 :: v52 :: v53 :: v54 :: v55 :: v56 :: v57 :: v58 :: v59 :: v60 :: v61 :: v62 :: v63 :: v64 :: v65 :: v66 :: v67 :: v68 :: v69 :: v70 :: v71 :: v72 :: v73 :: v74 :: v75 :: v76 :: v77 :: v78 :: v79 :: v80 :: v81 :: v82 :: v83 :: v84 :: v85 :: v86 :: v87 :: v88 :: v89 :: v90 :: v91 :: v92 :: v93 :: v94 :: v95 :: v96 :: v97 :: v98 :: v99 :: v100 :: v101 :: v102 :: v103 :: v104 :: v105 :: v106 :: v107 :: v108 :: v109 :: v110 :: v111 :: v112 :: v113 :: v114 :: v115 :: v116 :: v117 :: v118 :: v119 :: v120 :: v121 :: v122 :: v123 :: v124 :: v125 :: v126 :: c127 :: []), []⟩ W := by
  obtain ⟨M, hM⟩ : ∃ M, min n 60 = M := ⟨_, rfl⟩
  rw [hM] at hexit
  have HX : Hid (∀ (u5 u6 u7 u8 u9 u10 u11 u12 u21 u22 u23 u24 u25 u26 u27 u28 u29 u30 u31 u32 u33 u34 u35 u36 u37 u38 u39 u40 u41 u42 u43 u44 u45 u46 u47 u48 u49 u50 u51 u52 u53 u54 u55 u56 u57 u58 u59 u60 u61 u62 u63 u64 u65 u66 u67 u68 u69 u70 u71 u72 u73 u74 u75 u76 u77 u78 u79 u80 u81 u82 u83 u84 u85 u86 u87 u88 u89 u90 u91 u92 u93 u94 u95 u96 u97 u98 u99 u100 u101 u102 u103 u104 u105 u106 u107 u108 u109 u110 u111 u112 u113 u114 u115 u116 u117 u118 u119 u120 u121 u122 u123 u124 u125 u126 : Value) (W' : World), ScX e (partsF P F M) W' → Q (.exit 2) ⟨List.toArray ((.slice la n lc) :: c1 :: c2 :: (.slice (some ⟨e.b, 0, none⟩) 9 cv) :: c4 :: u5 :: u6 :: u7 :: u8 :: u9 :: u10 :: u11 :: u12 :: c13 :: c14 :: c15 :: c16 :: c17 :: c18 :: c19 :: c20 :: u21 :: u22 :: u23 :: u24 :: u25 :: u26 :: u27 :: u28 :: u29 :: u30 :: u31 :: u32 :: u33 :: u34 :: u35 :: u36 :: u37 :: u38 :: u39 :: u40 :: u41 :: u42 :: u43 :: u44 :: u45 :: u46 :: u47 :: u48 :: u49 :: u50 :: u51 :: u52 :: u53 :: u54 :: u55 :: u56 :: u57 :: u58 :: u59 :: u60 :: u61 :: u62 :: u63 :: u64 :: u65 :: u66 :: u67 :: u68 :: u69 :: u70 :: u71 :: u72 :: u73 :: u74 :: u75 :: u76 :: u77 :: u78 :: u79 :: u80 :: u81 :: u82 :: u83 :: u84 :: u85 :: u86 :: u87 :: u88 :: u89 :: u90 :: u91 :: u92 :: u93 :: u94 :: u95 :: u96 :: u97 :: u98 :: u99 :: u100 :: u101 :: u102 :: u103 :: u104 :: u105 :: u106 :: u107 :: u108 :: u109 :: u110 :: u111 :: u112 :: u113 :: u114 :: u115 :: u116 :: u117 :: u118 :: u119 :: u120 :: u121 :: u122 :: u123 :: u124 :: u125 :: u126 :: c127 :: []), []⟩ W') := hexit
  have H0 : Hid (ScX e (partsF P F 0) W) := h0
  have HL : Hid (0 < n → la = some ⟨lb, lo, none⟩) := hla
  have HO1 : Hid (ScO e ∧ (0 < n → ∀ j, j < 9 → lb ≠ e.gs j) ∧ ∀ i, i < n → ∀ f, f < 7 → e.w0.cell? ⟨lb, lo + i * 7 + f, none⟩ = some (.int .i64 (P i f))) := ⟨o, hlb, hc⟩
  have hM1 : M ≤ 60 ∧ M ≤ n ∧ (M = 60 ∨ M = n) := by omega
  clear h0 hexit o hlb hc hM hla
  conv => arg 2; whnf
  go_loopw [5] (fun vi wr => ∃ i : Nat, i ≤ M ∧ vi = .int .i64 (i : Int) ∧ Hid (ScX e (partsF P F i) wr)) (fun vi _ => 60 - (intOf vi).toNat)
  case atStart => exact ⟨0, by omega, rfl, H0⟩
  case round =>
    clear H0
    obtain ⟨i, hiM, rfl, HS⟩ := hrel
    by_cases hin : i < n
    case neg =>
      have hin' : ¬ (i : Int) < (n : Int) := by omega
      have HE : Hid (ScX e (partsF P F M) wr) := by
        obtain rfl : i = M := by omega
        exact HS.out
      clear HS HO1
      go_wp2
      exact HX.out _ _ _ _ _ _ _ _ _ _ _ _ _ _ _ _ _ _ _ _ _ _ _ _ _ _ _ _ _ _ _ _ _ _ _ _ _ _ _ _ _ _ _ _ _ _ _ _ _ _ _ _ _ _ _ _ _ _ _ _ _ _ _ _ _ _ _ _ _ _ _ _ _ _ _ _ _ _ _ _ _ _ _ _ _ _ _ _ _ _ _ _ _ _ _ _ _ _ _ _ _ _ _ _ _ _ _ _ _ _ _ _ _ _ _ HE.out
    have hin' : (i : Int) < (n : Int) := by omega
    by_cases hlt : i < 60
    case neg =>
      have hlt' : ¬ (i : Int) < 60 := by omega
      have HE : Hid (ScX e (partsF P F M) wr) := by
        obtain rfl : i = M := by omega
        exact HS.out
      clear HS HO1
      go_wp2
      exact HX.out _ _ _ _ _ _ _ _ _ _ _ _ _ _ _ _ _ _ _ _ _ _ _ _ _ _ _ _ _ _ _ _ _ _ _ _ _ _ _ _ _ _ _ _ _ _ _ _ _ _ _ _ _ _ _ _ _ _ _ _ _ _ _ _ _ _ _ _ _ _ _ _ _ _ _ _ _ _ _ _ _ _ _ _ _ _ _ _ _ _ _ _ _ _ _ _ _ _ _ _ _ _ _ _ _ _ _ _ _ _ _ _ _ _ _ HE.out
    have hlt' : (i : Int) < 60 := by omega
    clear HX
    have HO : Hid (ScO e ∧ (∀ j, j < 9 → lb ≠ e.gs j) ∧ ∀ i, i < n → ∀ f, f < 7 → e.w0.cell? ⟨lb, lo + i * 7 + f, none⟩ = some (.int .i64 (P i f))) := ⟨HO1.out.1, HO1.out.2.1 (by omega), HO1.out.2.2⟩
    obtain rfl : la = some ⟨lb, lo, none⟩ := HL.out (by omega)
    clear HO1 HL
    have cp : ∀ f, f < 7 → wr.cell? ⟨lb, lo + i * 7 + f, none⟩ = some (.int .i64 (P i f)) := fun f hf => by
      obtain ⟨css, hS⟩ := HS.out
      exact (hS.cell (p := ⟨lb, lo + i * 7 + f, none⟩) HO.out.2.1).trans (HO.out.2.2 i hin f hf)
    have p0 : wr.cell? ⟨lb, lo + i * 7, none⟩ = some (.int .i64 (P i 0)) := cp 0 (by omega)
    have p1 := cp 1 (by omega)
    have p2 := cp 2 (by omega)
    have p6 := cp 6 (by omega)
    obtain ⟨x0, hx0⟩ : ∃ x : Nat, (P i 0 % 48).toNat = x := ⟨_, rfl⟩
    obtain ⟨y0, hy0⟩ : ∃ x : Nat, (P i 1 % 128).toNat = x := ⟨_, rfl⟩
    obtain ⟨z0, hz0⟩ : ∃ x : Nat, (P i 2 % 48).toNat = x := ⟨_, rfl⟩
    obtain ⟨k, hk⟩ : ∃ x : Nat, (P i 6 % 17).toNat = x := ⟨_, rfl⟩
    have ex : P i 0 % 48 = (x0 : Int) := by omega
    have ey : P i 1 % 128 = (y0 : Int) := by omega
    have ez : P i 2 % 48 = (z0 : Int) := by omega
    have ek : P i 6 % 17 = (k : Int) := by omega
    have bx : x0 < 48 := by omega
    have byy : y0 < 128 := by omega
    have bz : z0 < 48 := by omega
    have bk : k < 17 := by omega
    have wk : IntKind.u8.wrap (k : Int) = (k : Int) := by rw [IntKind.wrap_u8]; omega
    have Hq : Hid (partF (P i) (partsF P F i) = boxY (partsF P F i) x0 (min 48 (x0 + (P i 3 % 48).toNat + 1)) z0 (min 48 (z0 + (P i 5 % 48).toNat + 1)) y0 (min 128 (y0 + (P i 4 % 128).toNat + 1)) (k : Int)) := by
      show partF (P i) (partsF P F i) = _
      unfold partF
      rw [hx0, hy0, hz0, ek]
    clear cp hx0 hy0 hz0 hk
    go_wp2_with fail
    refine (reduced_c (P i 0) 48 (by omega) (by omega) _).mono ?_
    rintro _ w5 ⟨rfl, hw⟩
    replace hw := hw.symm
    subst hw
    rw [ex]
    go_wp2_with fail
    refine (reduced_c (P i 1) 128 (by omega) (by omega) _).mono ?_
    rintro _ w5 ⟨rfl, hw⟩
    replace hw := hw.symm
    subst hw
    rw [ey]
    go_wp2_with fail
    refine (reduced_c (P i 2) 48 (by omega) (by omega) _).mono ?_
    rintro _ w5 ⟨rfl, hw⟩
    replace hw := hw.symm
    subst hw
    rw [ez]
    go_wp2_with fail
    refine (reduced_c (P i 6) 17 (by omega) (by omega) _).mono ?_
    rintro _ w5 ⟨rfl, hw⟩
    replace hw := hw.symm
    subst hw
    rw [ek]
    clear p0 p1 p2 p6
    go_wp2_with fail
    refine scp_loop4 _ e HO.out.1 (partsF P F i) lb lo n lc cv i x0 y0 z0 (k : Int) (P i) hin bx byy bz HO.out.2.1 (HO.out.2.2 i hin) wr HS.out ?_
    intro q10 q11 q12 q57 q58 q59 q60 q61 q62 q63 q64 q65 q66 q67 q68 q69 q70 q71 q72 q73 q74 q75 q76 q77 q78 q79 q80 q81 q82 q83 q84 q85 q86 q87 q88 q89 q90 q91 q92 q93 q94 q95 q96 q97 q98 q99 q100 q101 q102 q103 q104 q105 q106 q107 q108 q109 q110 q111 q112 q113 q114 q115 q116 q117 q118 q119 q120 q121 q122 q123 q124 q125 q126 W' hE
    have HE : Hid (ScX e (partsF P F (i + 1)) W') := by
      rw [← Hq.out] at hE
      exact hE
    clear hE HS HO Hq
    go_wp2
    exact ⟨⟨i + 1, by omega, by simp, HE⟩, by simp [intOf]; omega⟩
end Go.Proofs.YtjeapaojbkicmabDoor
