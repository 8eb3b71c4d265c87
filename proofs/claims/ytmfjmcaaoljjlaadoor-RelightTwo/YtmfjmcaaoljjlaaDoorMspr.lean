/-
  The document's Spread: one level's list is gone through.
  The document's Spread: the levels, one behind the other.
  The document's Spread: the lists are filled.
  The document's Spread.
-/
import Derived.Test.YtmfjmcaaoljjlaaDoorMsp6
import Derived.Test.YtmfjmcaaoljjlaaDoorLheld
set_option maxRecDepth 20000
namespace Go.Proofs.YtmfjmcaaoljjlaaDoor
section
open C Go.RowKit L

theorem Wt.cell {B gw v k : Nat} {w : World} {av : Nat → Option Addr} {cv : Nat → Nat} {wt : Nat → List Int} (h : Wt B w gw av cv wt) (hv : v < 16) (hk : k < (wt v).length) : ∃ gb, av v = some ⟨gb, 0, none⟩ ∧ w.cell? ⟨gb, k, none⟩ = some (.int .i64 ((wt v).getD k 0)) := by
  have ho := h.own v hv
  obtain ⟨gb, hg⟩ : ∃ gb, av v = some ⟨gb, 0, none⟩ := by
    rcases ho.2 with ⟨e, _⟩ | ⟨g, cap, cur, hv, _⟩
    · injection e with e1 e2 e3; omega
    · injection hv with e1 e2 e3; exact ⟨g, e1⟩
  refine ⟨gb, hg, ?_⟩
  have h2 := ho
  unfold OwnI at h2
  rw [hg] at h2
  rw [ownsRow_cell h2 k (by omega)]
  unfold ivs
  rw [List.getElem?_map, List.getElem?_eq_getElem hk, List.getD_eq_getElem?_getD, List.getElem?_eq_getElem hk]
  rfl
def Sp4 (e : SpE) (s : L.Sys) (level k : Nat) (WL : List Nat) (W : World) : Prop := ∃ ls wait av cv, Sp e s level k ls wait av cv W ∧ wait level = WL
set_option maxRecDepth 1000000 in
set_option maxHeartbeats 8000000 in
theorem sp_loop4 (Q : Exit → Act → World → Prop) {c2 c3 c5 c13 c14 c15 c16 c17 c18 c19 c20 c21 c22 c23 c24 c25 c26 c27 c28 c29 c30 c31 c32 c33 c34 c35 c36 c37 c38 c39 c40 c41 v8 v9 v10 v11 v12 v42 v43 v44 v45 v46 v47 v48 v49 v50 v51 v52 v53 v54 v55 v56 v57 v58 v59 v60 v61 v62 v63 v64 v65 v66 v67 v68 v69 v70 v71 v72 v73 v74 v75 v76 v77 v78 v79 v80 v81 v82 v83 v84 v85 v86 v87 v88 v89 v90 v91 v92 v93 v94 v95 v96 v97 v98 v99 v100 v101 v102 v103 v104 v105 v106 v107 v108 v109 v110 v111 v112 v113 v114 v115 v116 v117 v118 v119 v120 v121 v122 v123 v124 v125 v126 v127 v128 v129 v130 v131 v132 : Value} (e : SpE) (s : L.Sys) (o : SpO e s) (level cl : Nat) (WL : List Nat) (hlv : 2 ≤ level ∧ level ≤ 15) (W : World) (h0 : Sp4 e s level 0 WL W)
    (hexit : ∀ (u7 u8 u9 u10 u11 u12 u42 u43 u44 u45 u46 u47 u48 u49 u50 u51 u52 u53 u54 u55 u56 u57 u58 u59 u60 u61 u62 u63 u64 u65 u66 u67 u68 u69 u70 u71 u72 u73 u74 u75 u76 u77 u78 u79 u80 u81 u82 u83 u84 u85 u86 u87 u88 u89 u90 u91 u92 u93 u94 u95 u96 u97 u98 u99 u100 u101 u102 u103 u104 u105 u106 u107 u108 u109 u110 u111 u112 u113 u114 u115 u116 u117 u118 u119 u120 u121 u122 u123 u124 u125 u126 u127 u128 u129 u130 u131 u132 : Value) (W' : World), Sp4 e s level WL.length WL W' → Q (.exit 4) ⟨List.toArray ((.pointer (some ⟨e.g, 0, none⟩)) :: (.slice (some ⟨e.gl, 0, none⟩) e.N cl) :: c2 :: c3 :: (.slice (some ⟨e.gw, 0, none⟩) 16 16) :: c5 :: (.int .i64 (level : Int)) :: u7 :: u8 :: u9 :: u10 :: u11 :: u12 :: c13 :: c14 :: c15 :: c16 :: c17 :: c18 :: c19 :: c20 :: c21 :: c22 :: c23 :: c24 :: c25 :: c26 :: c27 :: c28 :: c29 :: c30 :: c31 :: c32 :: c33 :: c34 :: c35 :: c36 :: c37 :: c38 :: c39 :: c40 :: c41 :: u42 :: u43 :: u44 :: u45 :: u46 :: u47 :: u48 :: u49 :: u50 :: u51 :: u52 :: u53 :: u54 :: u55 :: u56 :: u57 :: u58 :: u59 :: u60 :: u61 :: u62 :: u63 :: u64 :: u65 :: u66 :: u67 :: u68 :: u69 :: u70 :: u71 :: u72 :: u73 :: u74 :: u75 :: u76 :: u77 :: u78 :: u79 :: u80 :: u81 :: u82 :: u83 :: u84 :: u85 :: u86 :: u87 :: u88 :: u89 :: u90 :: u91 :: u92 :: u93 :: u94 :: u95 :: u96 :: u97 :: u98 :: u99 :: u100 :: u101 :: u102 :: u103 :: u104 :: u105 :: u106 :: u107 :: u108 :: u109 :: u110 :: u111 :: u112 :: u113 :: u114 :: u115 :: u116 :: u117 :: u118 :: u119 :: u120 :: u121 :: u122 :: u123 :: u124 :: u125 :: u126 :: u127 :: u128 :: u129 :: u130 :: u131 :: u132 :: []), []⟩ W') :
    Code.wp Tryd.prog ((Tryd.f26.body.bind (blkOf 4)).getD .skip) Q ⟨List.toArray ((.pointer (some ⟨e.g, 0, none⟩)) :: (.slice (some ⟨e.gl, 0, none⟩) e.N cl) :: c2 :: c3 :: (.slice (some ⟨e.gw, 0, none⟩) 16 16) :: c5 :: (.int .i64 (level : Int)) :: (.int .i64 0) :: v8 :: v9 :: v10 :: v11 :: v12 :: c13 :: c14 :: c15 :: c16 :: c17 :: c18 :: c19 :: c20 :: c21 :: c22 :: c23 :: c24 :: c25 :: c26 :: c27 :: c28 :: c29 :: c30 :: c31 :: c32 :: c33 :: c34 :: c35 :: c36 :: c37 :: c38 :: c39 :: c40 :: c41 :: v42 :: v43 :: v44 :: v45 :: v46 :: v47 :: v48 :: v49 :: v50 :: v51 :: v52 :: v53 :: v54 :: v55 :: v56 :: v57 :: v58 :: v59 :: v60 :: v61 :: v62 :: v63 :: v64 :: v65 :: v66 :: v67 :: v68 :: v69 :: v70 :: v71 :: v72 :: v73 :: v74 :: v75 :: v76 :: v77 :: v78 :: v79 :: v80 :: v81 :: v82 :: v83 :: v84 :: v85 :: v86 :: v87 :: v88 :: v89 :: v90 :: v91 :: v92 :: v93 :: v94 :: v95 :: v96 :: v97 :: v98 :: v99 :: v100 :: v101 :: v102 :: v103 :: v104 :: v105 :: v106 :: v107 :: v108 :: v109 :: v110 :: v111 :: v112 :: v113 :: v114 :: v115 :: v116 :: v117 :: v118 :: v119 :: v120 :: v121 :: v122 :: v123 :: v124 :: v125 :: v126 :: v127 :: v128 :: v129 :: v130 :: v131 :: v132 :: []), []⟩ W := by
  have HX : Hid (∀ (u7 u8 u9 u10 u11 u12 u42 u43 u44 u45 u46 u47 u48 u49 u50 u51 u52 u53 u54 u55 u56 u57 u58 u59 u60 u61 u62 u63 u64 u65 u66 u67 u68 u69 u70 u71 u72 u73 u74 u75 u76 u77 u78 u79 u80 u81 u82 u83 u84 u85 u86 u87 u88 u89 u90 u91 u92 u93 u94 u95 u96 u97 u98 u99 u100 u101 u102 u103 u104 u105 u106 u107 u108 u109 u110 u111 u112 u113 u114 u115 u116 u117 u118 u119 u120 u121 u122 u123 u124 u125 u126 u127 u128 u129 u130 u131 u132 : Value) (W' : World), Sp4 e s level WL.length WL W' → Q (.exit 4) ⟨List.toArray ((.pointer (some ⟨e.g, 0, none⟩)) :: (.slice (some ⟨e.gl, 0, none⟩) e.N cl) :: c2 :: c3 :: (.slice (some ⟨e.gw, 0, none⟩) 16 16) :: c5 :: (.int .i64 (level : Int)) :: u7 :: u8 :: u9 :: u10 :: u11 :: u12 :: c13 :: c14 :: c15 :: c16 :: c17 :: c18 :: c19 :: c20 :: c21 :: c22 :: c23 :: c24 :: c25 :: c26 :: c27 :: c28 :: c29 :: c30 :: c31 :: c32 :: c33 :: c34 :: c35 :: c36 :: c37 :: c38 :: c39 :: c40 :: c41 :: u42 :: u43 :: u44 :: u45 :: u46 :: u47 :: u48 :: u49 :: u50 :: u51 :: u52 :: u53 :: u54 :: u55 :: u56 :: u57 :: u58 :: u59 :: u60 :: u61 :: u62 :: u63 :: u64 :: u65 :: u66 :: u67 :: u68 :: u69 :: u70 :: u71 :: u72 :: u73 :: u74 :: u75 :: u76 :: u77 :: u78 :: u79 :: u80 :: u81 :: u82 :: u83 :: u84 :: u85 :: u86 :: u87 :: u88 :: u89 :: u90 :: u91 :: u92 :: u93 :: u94 :: u95 :: u96 :: u97 :: u98 :: u99 :: u100 :: u101 :: u102 :: u103 :: u104 :: u105 :: u106 :: u107 :: u108 :: u109 :: u110 :: u111 :: u112 :: u113 :: u114 :: u115 :: u116 :: u117 :: u118 :: u119 :: u120 :: u121 :: u122 :: u123 :: u124 :: u125 :: u126 :: u127 :: u128 :: u129 :: u130 :: u131 :: u132 :: []), []⟩ W') := hexit
  have H0 : Hid (Sp4 e s level 0 WL W) := h0
  have HO : Hid (SpO e s) := o
  have hlv' := hlv
  obtain ⟨l2, l15⟩ := hlv'
  have hWb : WL.length ≤ 4718592 := by
    obtain ⟨ls, wait, av, cv, hS, hw⟩ := h0
    rw [← hw]
    exact hS.small o level
  clear h0 hexit o
  conv => arg 2; whnf
  go_loopw [7] (fun vk wr => ∃ k : Nat, k ≤ WL.length ∧ vk = .int .i64 (k : Int) ∧ Hid (Sp4 e s level k WL wr)) (fun vk _ => WL.length - (intOf vk).toNat)
  case atStart => exact ⟨0, by omega, rfl, H0⟩
  case round =>
    clear H0
    obtain ⟨k, hk, rfl, HS⟩ := hrel
    obtain ⟨ls, wait, av, cv, hS, hWL⟩ := HS.out
    have y0 : wr.cell? ⟨e.gw, level, none⟩ = some (.slice (av level) WL.length (cv level)) := by
      have := hS.wt.out level (by omega)
      have hl : (wI wait level).length = WL.length := by unfold wI; rw [List.length_map, hWL]
      rw [show slW av cv (wI wait) level = .slice (av level) WL.length (cv level) by unfold slW; rw [hl]] at this
      exact this
    have lv16 : (level : Int) < 16 := by omega
    by_cases hlt : k < WL.length
    case neg =>
      have hlt' : ¬ (k : Int) < (WL.length : Int) := by omega
      have HE : Hid (Sp4 e s level WL.length WL wr) := by
        obtain rfl : k = WL.length := by omega
        exact HS.out
      clear HS hS hWL HO
      go_wp2
      exact HX.out _ _ _ _ _ _ _ _ _ _ _ _ _ _ _ _ _ _ _ _ _ _ _ _ _ _ _ _ _ _ _ _ _ _ _ _ _ _ _ _ _ _ _ _ _ _ _ _ _ _ _ _ _ _ _ _ _ _ _ _ _ _ _ _ _ _ _ _ _ _ _ _ _ _ _ _ _ _ _ _ _ _ _ _ _ _ _ _ _ _ _ _ _ _ _ _ _ _ HE.out
    have hlt' : (k : Int) < (WL.length : Int) := by omega
    obtain ⟨m, hm⟩ : ∃ m, WL[k]? = some m := ⟨WL[k], List.getElem?_eq_getElem hlt⟩
    have Hm : Hid (WL[k]? = some m) := hm
    obtain ⟨gb, hgb, yc⟩ := hS.wt.cell (v := level) (k := k) (by omega) (by unfold wI; rw [List.length_map, hWL]; exact hlt)
    have yc' : wr.cell? ⟨gb, k, none⟩ = some (.int .i64 (m : Int)) := by
      rw [yc]
      unfold wI
      rw [List.getD_eq_getElem?_getD, List.getElem?_map, hWL, hm]
      rfl
    rw [hgb] at y0
    have hmN : m < e.N := by
      have := hS.bk.ids level m (by rw [hWL]; exact List.mem_of_getElem? hm)
      rw [HO.out.sn] at this
      exact this
    have H6 : Hid (Sp6 e s level k m 0 WL wr) := ⟨ls, wait, av, cv, hS, hWL, fun _ w j hw => absurd hw (Nat.not_lt_zero _)⟩
    have wk : IntKind.i64.wrap ((k : Int) + 1) = ((k + 1 : Nat) : Int) := by rw [IntKind.wrap_i64]; omega
    clear HS hS hWL hgb yc hm
    go_wp2_with fail
    refine sp_loop6 _ e s HO.out level k m cl WL hlv hmN wr H6.out ?_
    intro z9 z10 z11 z12 z58 z59 z60 z61 z62 z63 z64 z65 z66 z67 z68 z69 z70 z71 z72 z73 z74 z75 z76 z77 z78 z79 z80 z81 z82 z83 z84 z85 z86 z87 z88 z89 z90 z91 z92 z93 z94 z95 z96 z97 z98 z99 z100 z101 z102 z103 z104 z105 z106 z107 z108 z109 z110 z111 z112 z113 z114 z115 z116 z117 z118 z119 z120 z121 z122 z123 z124 z125 z126 z127 z128 z129 z130 z131 z132 W' hE
    have HE : Hid (Sp4 e s level (k + 1) WL W') := by
      obtain ⟨ls, wait, av, cv, hS, hWL, hD⟩ := hE
      exact ⟨ls, wait, av, cv, ⟨hS.bk.next (by rw [hWL]; exact Hm.out) hD, hS.len, hS.lv, hS.pl, hS.fd, hS.pk, hS.wt, hS.sz, hS.gr⟩, hWL⟩
    clear hE H6 HO y0 yc' Hm
    go_wp2
    exact ⟨⟨k + 1, by omega, rfl, HE⟩, by simp [intOf]; omega⟩
end
section
open C Go.RowKit L

def Sp2 (e : SpE) (s : L.Sys) (level : Nat) (W : World) : Prop := ∃ ls wait av cv, Sp e s level 0 ls wait av cv W
set_option maxRecDepth 1000000 in
set_option maxHeartbeats 8000000 in
theorem sp_loop2 (Q : Exit → Act → World → Prop) {c2 c3 c5 c13 c14 c15 c16 c17 c18 c19 c20 c21 c22 c23 c24 c25 c26 c27 c28 c29 c30 c31 c32 c33 c34 c35 c36 c37 v7 v8 v9 v10 v11 v12 v38 v39 v40 v41 v42 v43 v44 v45 v46 v47 v48 v49 v50 v51 v52 v53 v54 v55 v56 v57 v58 v59 v60 v61 v62 v63 v64 v65 v66 v67 v68 v69 v70 v71 v72 v73 v74 v75 v76 v77 v78 v79 v80 v81 v82 v83 v84 v85 v86 v87 v88 v89 v90 v91 v92 v93 v94 v95 v96 v97 v98 v99 v100 v101 v102 v103 v104 v105 v106 v107 v108 v109 v110 v111 v112 v113 v114 v115 v116 v117 v118 v119 v120 v121 v122 v123 v124 v125 v126 v127 v128 v129 v130 v131 v132 : Value} (e : SpE) (s : L.Sys) (o : SpO e s) (cl : Nat) (W : World) (h0 : Sp2 e s 15 W)
    (hexit : ∀ (u6 u7 u8 u9 u10 u11 u12 u38 u39 u40 u41 u42 u43 u44 u45 u46 u47 u48 u49 u50 u51 u52 u53 u54 u55 u56 u57 u58 u59 u60 u61 u62 u63 u64 u65 u66 u67 u68 u69 u70 u71 u72 u73 u74 u75 u76 u77 u78 u79 u80 u81 u82 u83 u84 u85 u86 u87 u88 u89 u90 u91 u92 u93 u94 u95 u96 u97 u98 u99 u100 u101 u102 u103 u104 u105 u106 u107 u108 u109 u110 u111 u112 u113 u114 u115 u116 u117 u118 u119 u120 u121 u122 u123 u124 u125 u126 u127 u128 u129 u130 u131 u132 : Value) (W' : World), Sp2 e s 1 W' → Q (.exit 2) ⟨List.toArray ((.pointer (some ⟨e.g, 0, none⟩)) :: (.slice (some ⟨e.gl, 0, none⟩) e.N cl) :: c2 :: c3 :: (.slice (some ⟨e.gw, 0, none⟩) 16 16) :: c5 :: u6 :: u7 :: u8 :: u9 :: u10 :: u11 :: u12 :: c13 :: c14 :: c15 :: c16 :: c17 :: c18 :: c19 :: c20 :: c21 :: c22 :: c23 :: c24 :: c25 :: c26 :: c27 :: c28 :: c29 :: c30 :: c31 :: c32 :: c33 :: c34 :: c35 :: c36 :: c37 :: u38 :: u39 :: u40 :: u41 :: u42 :: u43 :: u44 :: u45 :: u46 :: u47 :: u48 :: u49 :: u50 :: u51 :: u52 :: u53 :: u54 :: u55 :: u56 :: u57 :: u58 :: u59 :: u60 :: u61 :: u62 :: u63 :: u64 :: u65 :: u66 :: u67 :: u68 :: u69 :: u70 :: u71 :: u72 :: u73 :: u74 :: u75 :: u76 :: u77 :: u78 :: u79 :: u80 :: u81 :: u82 :: u83 :: u84 :: u85 :: u86 :: u87 :: u88 :: u89 :: u90 :: u91 :: u92 :: u93 :: u94 :: u95 :: u96 :: u97 :: u98 :: u99 :: u100 :: u101 :: u102 :: u103 :: u104 :: u105 :: u106 :: u107 :: u108 :: u109 :: u110 :: u111 :: u112 :: u113 :: u114 :: u115 :: u116 :: u117 :: u118 :: u119 :: u120 :: u121 :: u122 :: u123 :: u124 :: u125 :: u126 :: u127 :: u128 :: u129 :: u130 :: u131 :: u132 :: []), []⟩ W') :
    Code.wp Tryd.prog ((Tryd.f26.body.bind (blkOf 2)).getD .skip) Q ⟨List.toArray ((.pointer (some ⟨e.g, 0, none⟩)) :: (.slice (some ⟨e.gl, 0, none⟩) e.N cl) :: c2 :: c3 :: (.slice (some ⟨e.gw, 0, none⟩) 16 16) :: c5 :: (.int .i64 15) :: v7 :: v8 :: v9 :: v10 :: v11 :: v12 :: c13 :: c14 :: c15 :: c16 :: c17 :: c18 :: c19 :: c20 :: c21 :: c22 :: c23 :: c24 :: c25 :: c26 :: c27 :: c28 :: c29 :: c30 :: c31 :: c32 :: c33 :: c34 :: c35 :: c36 :: c37 :: v38 :: v39 :: v40 :: v41 :: v42 :: v43 :: v44 :: v45 :: v46 :: v47 :: v48 :: v49 :: v50 :: v51 :: v52 :: v53 :: v54 :: v55 :: v56 :: v57 :: v58 :: v59 :: v60 :: v61 :: v62 :: v63 :: v64 :: v65 :: v66 :: v67 :: v68 :: v69 :: v70 :: v71 :: v72 :: v73 :: v74 :: v75 :: v76 :: v77 :: v78 :: v79 :: v80 :: v81 :: v82 :: v83 :: v84 :: v85 :: v86 :: v87 :: v88 :: v89 :: v90 :: v91 :: v92 :: v93 :: v94 :: v95 :: v96 :: v97 :: v98 :: v99 :: v100 :: v101 :: v102 :: v103 :: v104 :: v105 :: v106 :: v107 :: v108 :: v109 :: v110 :: v111 :: v112 :: v113 :: v114 :: v115 :: v116 :: v117 :: v118 :: v119 :: v120 :: v121 :: v122 :: v123 :: v124 :: v125 :: v126 :: v127 :: v128 :: v129 :: v130 :: v131 :: v132 :: []), []⟩ W := by
  have HX : Hid (∀ (u6 u7 u8 u9 u10 u11 u12 u38 u39 u40 u41 u42 u43 u44 u45 u46 u47 u48 u49 u50 u51 u52 u53 u54 u55 u56 u57 u58 u59 u60 u61 u62 u63 u64 u65 u66 u67 u68 u69 u70 u71 u72 u73 u74 u75 u76 u77 u78 u79 u80 u81 u82 u83 u84 u85 u86 u87 u88 u89 u90 u91 u92 u93 u94 u95 u96 u97 u98 u99 u100 u101 u102 u103 u104 u105 u106 u107 u108 u109 u110 u111 u112 u113 u114 u115 u116 u117 u118 u119 u120 u121 u122 u123 u124 u125 u126 u127 u128 u129 u130 u131 u132 : Value) (W' : World), Sp2 e s 1 W' → Q (.exit 2) ⟨List.toArray ((.pointer (some ⟨e.g, 0, none⟩)) :: (.slice (some ⟨e.gl, 0, none⟩) e.N cl) :: c2 :: c3 :: (.slice (some ⟨e.gw, 0, none⟩) 16 16) :: c5 :: u6 :: u7 :: u8 :: u9 :: u10 :: u11 :: u12 :: c13 :: c14 :: c15 :: c16 :: c17 :: c18 :: c19 :: c20 :: c21 :: c22 :: c23 :: c24 :: c25 :: c26 :: c27 :: c28 :: c29 :: c30 :: c31 :: c32 :: c33 :: c34 :: c35 :: c36 :: c37 :: u38 :: u39 :: u40 :: u41 :: u42 :: u43 :: u44 :: u45 :: u46 :: u47 :: u48 :: u49 :: u50 :: u51 :: u52 :: u53 :: u54 :: u55 :: u56 :: u57 :: u58 :: u59 :: u60 :: u61 :: u62 :: u63 :: u64 :: u65 :: u66 :: u67 :: u68 :: u69 :: u70 :: u71 :: u72 :: u73 :: u74 :: u75 :: u76 :: u77 :: u78 :: u79 :: u80 :: u81 :: u82 :: u83 :: u84 :: u85 :: u86 :: u87 :: u88 :: u89 :: u90 :: u91 :: u92 :: u93 :: u94 :: u95 :: u96 :: u97 :: u98 :: u99 :: u100 :: u101 :: u102 :: u103 :: u104 :: u105 :: u106 :: u107 :: u108 :: u109 :: u110 :: u111 :: u112 :: u113 :: u114 :: u115 :: u116 :: u117 :: u118 :: u119 :: u120 :: u121 :: u122 :: u123 :: u124 :: u125 :: u126 :: u127 :: u128 :: u129 :: u130 :: u131 :: u132 :: []), []⟩ W') := hexit
  have H0 : Hid (Sp2 e s 15 W) := h0
  have HO : Hid (SpO e s) := o
  clear h0 hexit o
  conv => arg 2; whnf
  go_loopw [6] (fun vl wr => ∃ level : Nat, 1 ≤ level ∧ level ≤ 15 ∧ vl = .int .i64 (level : Int) ∧ Hid (Sp2 e s level wr)) (fun vl _ => (intOf vl).toNat)
  case atStart => exact ⟨15, by omega, by omega, rfl, H0⟩
  case round =>
    clear H0
    obtain ⟨level, l1, l15, rfl, HS⟩ := hrel
    by_cases hlt : 1 < level
    case neg =>
      have hlt' : ¬ 1 < (level : Int) := by omega
      have HE : Hid (Sp2 e s 1 wr) := by
        obtain rfl : level = 1 := by omega
        exact HS.out
      clear HS HO
      go_wp2
      exact HX.out _ _ _ _ _ _ _ _ _ _ _ _ _ _ _ _ _ _ _ _ _ _ _ _ _ _ _ _ _ _ _ _ _ _ _ _ _ _ _ _ _ _ _ _ _ _ _ _ _ _ _ _ _ _ _ _ _ _ _ _ _ _ _ _ _ _ _ _ _ _ _ _ _ _ _ _ _ _ _ _ _ _ _ _ _ _ _ _ _ _ _ _ _ _ _ _ _ _ _ _ _ _ _ HE.out
    have hlt' : 1 < (level : Int) := by omega
    have wl : IntKind.i64.wrap ((level : Int) - 1) = ((level - 1 : Nat) : Int) := by rw [IntKind.wrap_i64]; omega
    obtain ⟨ls, wait, av, cv, hS⟩ := HS.out
    obtain ⟨WL, hWL⟩ : ∃ WL, wait level = WL := ⟨_, rfl⟩
    have H4 : Hid (Sp4 e s level 0 WL wr) := ⟨ls, wait, av, cv, hS, hWL⟩
    clear HS hS hWL
    go_wp2_with fail
    refine sp_loop4 _ e s HO.out level cl WL ⟨by omega, l15⟩ wr H4.out ?_
    intro z7 z8 z9 z10 z11 z12 z42 z43 z44 z45 z46 z47 z48 z49 z50 z51 z52 z53 z54 z55 z56 z57 z58 z59 z60 z61 z62 z63 z64 z65 z66 z67 z68 z69 z70 z71 z72 z73 z74 z75 z76 z77 z78 z79 z80 z81 z82 z83 z84 z85 z86 z87 z88 z89 z90 z91 z92 z93 z94 z95 z96 z97 z98 z99 z100 z101 z102 z103 z104 z105 z106 z107 z108 z109 z110 z111 z112 z113 z114 z115 z116 z117 z118 z119 z120 z121 z122 z123 z124 z125 z126 z127 z128 z129 z130 z131 z132 W' hE
    have HE : Hid (Sp2 e s (level - 1) W') := by
      obtain ⟨ls, wait, av, cv, hS, hWL⟩ := hE
      obtain ⟨q, rfl⟩ : ∃ q, level = q + 1 := ⟨level - 1, by omega⟩
      exact ⟨ls, wait, av, cv, ⟨hS.bk.down (by rw [hWL]; exact Nat.le_refl _), hS.len, hS.lv, hS.pl, hS.fd, hS.pk, hS.wt, hS.sz, hS.gr⟩⟩
    clear hE H4 HO
    go_wp2
    exact ⟨⟨level - 1, by omega, by omega, rfl, HE⟩, by simp [intOf]; omega⟩
end
section
open C Go.RowKit L

/-- The first i cells stand in the lists. -/
structure Sf (e : SpE) (ls : List Int) (i : Nat) (wait : Nat → List Nat) (av : Nat → Option Addr) (cv : Nat → Nat) (w : World) : Prop where
  pl : Pre w e.gl 5 ls
  fd : Fd w e.g e.W e.D e.T (.slice (some ⟨e.kb, 0, none⟩) e.N e.cap)
  pk : Pre w e.kb 5 e.ks
  wt : Wt e.w0.heap.size w e.gw av cv (wI wait)
  full : ∀ j, j < i → j ∈ wait (li ls j)
  ids : ∀ v, ∀ j ∈ wait v, j < i
  sz : ∀ v, (wait v).length ≤ i
  gr : e.w0.grownBy w (some e.gl)
theorem Sf.on {e : SpE} {ls : List Int} {i : Nat} {wait : Nat → List Nat} {av : Nat → Option Addr} {cv : Nat → Nat} {w w' : World} (h : Sf e ls i wait av cv w) (hb : Below w.heap.size w w') : Sf e ls i wait av cv w' :=
  ⟨h.pl.below hb h.pl.lt, h.fd.on hb, h.pk.below hb h.pk.lt, h.wt.on hb, h.full, h.ids, h.sz, ⟨hb.os.trans h.gr.os, hb.tape.trans h.gr.tape, hb.output.trans h.gr.output, Nat.le_trans h.gr.size hb.size, fun j hj hne => (hb.block j (Nat.lt_of_lt_of_le hj h.gr.size)).trans (h.gr.block j hj hne)⟩⟩
theorem Sf.push {e : SpE} {ls : List Int} {i v : Nat} {wait : Nat → List Nat} {av : Nat → Option Addr} {cv : Nat → Nat} {w w3 : World} {a' : Option Addr} {c' : Nat} (h : Sf e ls i wait av cv w) (hl : li ls i = v) (hv16 : v < 16)
    (ho : OwnI w3 e.w0.heap.size a' c' (wI wait v ++ [(i : Int)])) (hg : w.grownBy w3 (Value.ownBlock (slW av cv (wI wait) v))) (hat : Value.ownBlock (.slice a' ((wI wait v).length + 1) c') = Value.ownBlock (slW av cv (wI wait) v) ∨ Value.ownBlock (.slice a' ((wI wait v).length + 1) c') = some w.heap.size) :
    Sf e ls (i + 1) (fun u => if u = v then wait v ++ [i] else wait u) (updA av v a') (updA cv v c') (w3.setCell ⟨e.gw, v, none⟩ (.slice a' ((wI wait v).length + 1) c')) := by
  have wt1 := h.wt
  have wt2 := wt1.push hv16 ho hg hat
  rw [← wI_push] at wt2
  have hnl : ∀ {b : Nat} {c3 : Array Value} {t : TypeId}, w.heap[b]? = some (.cells c3 t (0, 0)) → t ≠ 3 → t ≠ 69 → (w3.setCell ⟨e.gw, v, none⟩ (.slice a' ((wI wait v).length + 1) c')).heap[b]? = some (.cells c3 t (0, 0)) := fun {b c3 t} h1 h3 h58 => by
    have hng : b ≠ e.gw := fun q => by
      obtain ⟨c2, hc2, _⟩ := wt1.blk
      rw [q, hc2] at h1
      cases h1
      exact h58 rfl
    refine (Below.heap_setCell w3 _ _ b hng).trans ((hg.block b (Array.getElem?_eq_some_iff.1 h1).1 (fun q => ?_)).trans h1)
    obtain ⟨_, c2, hc2⟩ := own_block (wt1.own v hv16) q.symm
    rw [h1] at hc2
    cases hc2
    exact h3 rfl
  refine ⟨?_, hnl h.fd (by decide) (by decide), ?_, wt2, fun j hj => ?_, fun u j hj => ?_, fun u => ?_, ?_⟩
  · obtain ⟨cu, hcu, hr⟩ := h.pl
    exact ⟨cu, hnl hcu (by decide) (by decide), hr⟩
  · obtain ⟨cu, hcu, hr⟩ := h.pk
    exact ⟨cu, hnl hcu (by decide) (by decide), hr⟩
  · show j ∈ (if li ls j = v then wait v ++ [i] else wait (li ls j))
    rcases Nat.lt_or_ge j i with hji | hji
    · have := h.full j hji
      by_cases q : li ls j = v
      · rw [if_pos q, ← q]; exact List.mem_append_left _ this
      · rw [if_neg q]; exact this
    · obtain rfl : j = i := by omega
      rw [if_pos hl]
      simp
  · have hj' : j ∈ (if u = v then wait v ++ [i] else wait u) := hj
    by_cases q : u = v
    · rw [if_pos q, List.mem_append] at hj'
      rcases hj' with h1 | h1
      · have := h.ids v j h1; omega
      · have := List.mem_singleton.1 h1; omega
    · rw [if_neg q] at hj'
      have := h.ids u j hj'; omega
  · show (if u = v then wait v ++ [i] else wait u).length ≤ i + 1
    by_cases q : u = v
    · rw [if_pos q, List.length_append]
      have := h.sz v
      simp only [List.length_cons, List.length_nil]
      omega
    · rw [if_neg q]
      have := h.sz u
      omega
  · have hbase := wt1.base
    refine ⟨hg.os.trans h.gr.os, hg.tape.trans h.gr.tape, hg.output.trans h.gr.output, ?_, fun j hj hne => ?_⟩
    · have := h.gr.size
      have := hg.size
      simp only [World.setCell] at *
      simp
      omega
    · have hjl : j < w.heap.size := Nat.lt_of_lt_of_le hj h.gr.size
      refine (Below.heap_setCell w3 _ _ j (by show j ≠ e.gw; omega)).trans ((hg.block j hjl (fun q => ?_)).trans (h.gr.block j hj hne))
      have := (own_block (wt1.own v hv16) q.symm).1
      omega
/-- What the round's region reads. -/
structure ReadsF (gl gw i : Nat) (lv : Int) (v : Nat) (sl : Value) (w : World) : Prop where
  l : w.cell? ⟨gl, i, none⟩ = some (.int .u8 lv)
  s : w.cell? ⟨gw, v, none⟩ = some sl
theorem Wt.kept' {B gw v Ln b i : Nat} {x : Value} {w w' : World} {av : Nat → Option Addr} {cv : Nat → Nat} {wt : Nat → List Int} {cur : Array Value} (h : Wt B w gw av cv wt) (hv : v < 16) (hL : (wt v).length = Ln) (hg : w.grownBy w' (Value.ownBlock (.slice (av v) Ln (cv v)))) (hb : w.heap[b]? = some (.cells cur 5 (0, 0))) (hx : w.cell? ⟨b, i, none⟩ = some x) : w'.cell? ⟨b, i, none⟩ = some x := by
  subst hL
  have e : w'.heap[b]? = some (.cells cur 5 (0, 0)) := (hg.block b (Array.getElem?_eq_some_iff.1 hb).1 (fun q => by
    obtain ⟨_, c2, h2⟩ := own_block (h.own v hv) q.symm
    rw [hb] at h2
    cases h2)).trans hb
  rw [cell_of_row w b i cur 5 (0, 0) hb] at hx
  rw [cell_of_row w' b i cur 5 (0, 0) e]
  exact hx
def Sf0 (e : SpE) (ls : List Int) (i : Nat) (W : World) : Prop := ∃ wait av cv, Sf e ls i wait av cv W
attribute [local go_sem] Oper.semAt_some
set_option maxRecDepth 1000000 in
set_option maxHeartbeats 8000000 in
theorem sp_loop0 (Q : Exit → Act → World → Prop) (hQ : ∀ d v c a w, Q (.panic c) (a.put d v) w → Q (.panic c) a w) {c2 c3 c6 c7 c8 c9 c10 c11 c12 c13 c38 c39 c40 c41 c42 c43 c44 c45 c46 c47 c48 c49 c50 c51 c52 c53 c54 c55 c56 c57 c58 c59 c60 c61 c62 c63 c64 c65 c66 c67 c68 c69 c70 c71 c72 c73 c74 c75 c76 c77 c78 c79 c80 c81 c82 c83 c84 c85 c86 c87 c88 c89 c90 c91 c92 c93 c94 c95 c96 c97 c98 c99 c100 c101 c102 c103 c104 c105 c106 c107 c108 c109 c110 c111 c112 c113 c114 c115 c116 c117 c118 c119 c120 c121 c122 c123 c124 c125 c126 c127 c128 c129 c130 c131 c132 v14 v15 v16 v17 v18 v19 v20 v21 v22 v23 v24 v25 v26 v27 v28 v29 v30 v31 v32 v33 v34 v35 v36 v37 : Value} (e : SpE) (ls : List Int) (hN : e.N ≤ 294912) (hlen : ls.length = e.N) (hLv : Lv ls) (cl : Nat) (W : World) (h0 : Sf0 e ls 0 W)
    (hexit : ∀ (u5 u14 u15 u16 u17 u18 u19 u20 u21 u22 u23 u24 u25 u26 u27 u28 u29 u30 u31 u32 u33 u34 u35 u36 u37 : Value) (W' : World), Sf0 e ls e.N W' → Q (.exit 0) ⟨List.toArray ((.pointer (some ⟨e.g, 0, none⟩)) :: (.slice (some ⟨e.gl, 0, none⟩) e.N cl) :: c2 :: c3 :: (.slice (some ⟨e.gw, 0, none⟩) 16 16) :: u5 :: c6 :: c7 :: c8 :: c9 :: c10 :: c11 :: c12 :: c13 :: u14 :: u15 :: u16 :: u17 :: u18 :: u19 :: u20 :: u21 :: u22 :: u23 :: u24 :: u25 :: u26 :: u27 :: u28 :: u29 :: u30 :: u31 :: u32 :: u33 :: u34 :: u35 :: u36 :: u37 :: c38 :: c39 :: c40 :: c41 :: c42 :: c43 :: c44 :: c45 :: c46 :: c47 :: c48 :: c49 :: c50 :: c51 :: c52 :: c53 :: c54 :: c55 :: c56 :: c57 :: c58 :: c59 :: c60 :: c61 :: c62 :: c63 :: c64 :: c65 :: c66 :: c67 :: c68 :: c69 :: c70 :: c71 :: c72 :: c73 :: c74 :: c75 :: c76 :: c77 :: c78 :: c79 :: c80 :: c81 :: c82 :: c83 :: c84 :: c85 :: c86 :: c87 :: c88 :: c89 :: c90 :: c91 :: c92 :: c93 :: c94 :: c95 :: c96 :: c97 :: c98 :: c99 :: c100 :: c101 :: c102 :: c103 :: c104 :: c105 :: c106 :: c107 :: c108 :: c109 :: c110 :: c111 :: c112 :: c113 :: c114 :: c115 :: c116 :: c117 :: c118 :: c119 :: c120 :: c121 :: c122 :: c123 :: c124 :: c125 :: c126 :: c127 :: c128 :: c129 :: c130 :: c131 :: c132 :: []), []⟩ W') :
    Code.wp Tryd.prog ((Tryd.f26.body.bind (blkOf 0)).getD .skip) Q ⟨List.toArray ((.pointer (some ⟨e.g, 0, none⟩)) :: (.slice (some ⟨e.gl, 0, none⟩) e.N cl) :: c2 :: c3 :: (.slice (some ⟨e.gw, 0, none⟩) 16 16) :: (.int .i64 0) :: c6 :: c7 :: c8 :: c9 :: c10 :: c11 :: c12 :: c13 :: v14 :: v15 :: v16 :: v17 :: v18 :: v19 :: v20 :: v21 :: v22 :: v23 :: v24 :: v25 :: v26 :: v27 :: v28 :: v29 :: v30 :: v31 :: v32 :: v33 :: v34 :: v35 :: v36 :: v37 :: c38 :: c39 :: c40 :: c41 :: c42 :: c43 :: c44 :: c45 :: c46 :: c47 :: c48 :: c49 :: c50 :: c51 :: c52 :: c53 :: c54 :: c55 :: c56 :: c57 :: c58 :: c59 :: c60 :: c61 :: c62 :: c63 :: c64 :: c65 :: c66 :: c67 :: c68 :: c69 :: c70 :: c71 :: c72 :: c73 :: c74 :: c75 :: c76 :: c77 :: c78 :: c79 :: c80 :: c81 :: c82 :: c83 :: c84 :: c85 :: c86 :: c87 :: c88 :: c89 :: c90 :: c91 :: c92 :: c93 :: c94 :: c95 :: c96 :: c97 :: c98 :: c99 :: c100 :: c101 :: c102 :: c103 :: c104 :: c105 :: c106 :: c107 :: c108 :: c109 :: c110 :: c111 :: c112 :: c113 :: c114 :: c115 :: c116 :: c117 :: c118 :: c119 :: c120 :: c121 :: c122 :: c123 :: c124 :: c125 :: c126 :: c127 :: c128 :: c129 :: c130 :: c131 :: c132 :: []), []⟩ W := by
  have HX : Hid (∀ (u5 u14 u15 u16 u17 u18 u19 u20 u21 u22 u23 u24 u25 u26 u27 u28 u29 u30 u31 u32 u33 u34 u35 u36 u37 : Value) (W' : World), Sf0 e ls e.N W' → Q (.exit 0) ⟨List.toArray ((.pointer (some ⟨e.g, 0, none⟩)) :: (.slice (some ⟨e.gl, 0, none⟩) e.N cl) :: c2 :: c3 :: (.slice (some ⟨e.gw, 0, none⟩) 16 16) :: u5 :: c6 :: c7 :: c8 :: c9 :: c10 :: c11 :: c12 :: c13 :: u14 :: u15 :: u16 :: u17 :: u18 :: u19 :: u20 :: u21 :: u22 :: u23 :: u24 :: u25 :: u26 :: u27 :: u28 :: u29 :: u30 :: u31 :: u32 :: u33 :: u34 :: u35 :: u36 :: u37 :: c38 :: c39 :: c40 :: c41 :: c42 :: c43 :: c44 :: c45 :: c46 :: c47 :: c48 :: c49 :: c50 :: c51 :: c52 :: c53 :: c54 :: c55 :: c56 :: c57 :: c58 :: c59 :: c60 :: c61 :: c62 :: c63 :: c64 :: c65 :: c66 :: c67 :: c68 :: c69 :: c70 :: c71 :: c72 :: c73 :: c74 :: c75 :: c76 :: c77 :: c78 :: c79 :: c80 :: c81 :: c82 :: c83 :: c84 :: c85 :: c86 :: c87 :: c88 :: c89 :: c90 :: c91 :: c92 :: c93 :: c94 :: c95 :: c96 :: c97 :: c98 :: c99 :: c100 :: c101 :: c102 :: c103 :: c104 :: c105 :: c106 :: c107 :: c108 :: c109 :: c110 :: c111 :: c112 :: c113 :: c114 :: c115 :: c116 :: c117 :: c118 :: c119 :: c120 :: c121 :: c122 :: c123 :: c124 :: c125 :: c126 :: c127 :: c128 :: c129 :: c130 :: c131 :: c132 :: []), []⟩ W') := hexit
  have H0 : Hid (Sf0 e ls 0 W) := h0
  have HN : Hid (e.N ≤ 294912 ∧ ls.length = e.N ∧ Lv ls) := ⟨hN, hlen, hLv⟩
  have hNb : e.N ≤ 1000000 := by omega
  have HQ : Hid (∀ d v c a w, Q (.panic c) (a.put d v) w → Q (.panic c) a w) := hQ
  clear h0 hexit hN hlen hLv hQ
  conv => arg 2; whnf
  go_loopw [5] (fun vi wr => ∃ i : Nat, i ≤ e.N ∧ vi = .int .i64 (i : Int) ∧ Hid (Sf0 e ls i wr)) (fun vi _ => e.N - (intOf vi).toNat)
  case atStart => exact ⟨0, by omega, rfl, H0⟩
  case round =>
    clear H0
    obtain ⟨i, hi, rfl, HS⟩ := hrel
    by_cases hlt : i < e.N
    case neg =>
      have hlt' : ¬ (i : Int) < (e.N : Int) := by omega
      have HE : Hid (Sf0 e ls e.N wr) := by
        obtain rfl : i = e.N := by omega
        exact HS.out
      clear HS HN
      go_wp2
      exact HX.out _ _ _ _ _ _ _ _ _ _ _ _ _ _ _ _ _ _ _ _ _ _ _ _ _ _ HE.out
    have hlt' : (i : Int) < (e.N : Int) := by omega
    obtain ⟨wait, av, cv, hS0⟩ := HS.out
    clear HS
    have wi : IntKind.i64.wrap ((i : Int) + 1) = ((i + 1 : Nat) : Int) := by rw [IntKind.wrap_i64]; omega
    obtain ⟨v, hv⟩ : ∃ v : Nat, li ls i = v := ⟨_, rfl⟩
    have hgd : ls.getD i 0 = (v : Int) := by
      have := (HN.out.2.2 i).1
      unfold li at hv
      omega
    have v16 : v < 16 := by
      have := (HN.out.2.2 i).2
      omega
    have v16' : (v : Int) < 16 := by omega
    have wv : IntKind.i64.wrap (v : Int) = (v : Int) := by rw [IntKind.wrap_i64]; omega
    have hd0 : Below wr.heap.size wr wr.drew := (Below.refl _ wr).drew
    have hS := hS0.on hd0
    clear hS0 hd0
    go_wp2_with fail
    refine region_L (ReadsF e.gl e.gw i (v : Int) v (.slice (av v) (wI wait v).length (cv v))) 18 (by kernel_rfl) ?_
    generalize wr.drew = va at *
    have cl0 := hS.pl.cell (k := i) (by rw [HN.out.2.1]; exact hlt)
    rw [hgd] at cl0
    have hHeld : ReadsF e.gl e.gw i (v : Int) v (.slice (av v) (wI wait v).length (cv v)) va := ⟨cl0, hS.wt.out v v16⟩
    have HS1 : Hid (Sf e ls i wait av cv va) := hS
    have Hv : Hid (li ls i = v) := hv
    have hwl : (wI wait v).length ≤ 1000000 := by
      unfold wI
      rw [List.length_map]
      have := hS.sz v
      omega
    clear hS cl0 hv hgd
    obtain ⟨Ln, hLn⟩ : ∃ Ln, (wI wait v).length = Ln := ⟨_, rfl⟩
    rw [hLn] at hHeld hwl ⊢
    have HLn : Hid ((wI wait v).length = Ln) := hLn
    clear hLn
    have hne : Nonempty (Sub (ReadsF e.gl e.gw i (v : Int) v (.slice (av v) Ln (cv v)))) := ⟨⟨_, hHeld⟩⟩
    have k0 : ∀ s : Sub (ReadsF e.gl e.gw i (v : Int) v (.slice (av v) Ln (cv v))), s.w.cell? ⟨e.gl, i, none⟩ = some (.int .u8 (v : Int)) := fun s => s.ok.l
    have k1 : ∀ s : Sub (ReadsF e.gl e.gw i (v : Int) v (.slice (av v) Ln (cv v))), s.w.cell? ⟨e.gw, v, none⟩ = some (.slice (av v) Ln (cv v)) := fun s => s.ok.s
    refine take_L (i := 0) rfl (by kernel_rfl) (by kernel_rfl) (by kernel_rfl) (by kernel_rfl) (fun _ _ _ _ h => HQ.out _ _ _ _ _ h) (by exact hHeld) (fun K hK => ?_)
    go_simp
    refine hK _ ?_
    clear hK K
    refine take_L (i := 1) rfl (by kernel_rfl) (by kernel_rfl) (by kernel_rfl) (by kernel_rfl) (fun _ _ _ _ h => HQ.out _ _ _ _ _ h) (by exact hHeld) (fun K hK => ?_)
    go_simp
    refine hK _ ?_
    clear hK K
    refine take_L (i := 2) rfl (by kernel_rfl) (by kernel_rfl) (by kernel_rfl) (by kernel_rfl) (fun _ _ _ _ h => HQ.out _ _ _ _ _ h) (by exact hHeld) (fun K hK => ?_)
    go_simp
    refine hK _ ?_
    clear hK K
    refine take_L (i := 3) rfl (by kernel_rfl) (by kernel_rfl) (by kernel_rfl) (by kernel_rfl) (fun _ _ _ _ h => HQ.out _ _ _ _ _ h) (by exact hHeld) (fun K hK => ?_)
    go_simp
    refine hK _ ?_
    clear hK K
    refine take_L (i := 4) rfl (by kernel_rfl) (by kernel_rfl) (by kernel_rfl) (by kernel_rfl) (fun _ _ _ _ h => HQ.out _ _ _ _ _ h) (by exact hHeld) (fun K hK => ?_)
    go_simp
    refine hK _ ?_
    clear hK K
    refine take_L (i := 5) rfl (by kernel_rfl) (by kernel_rfl) (by kernel_rfl) (by kernel_rfl) (fun _ _ _ _ h => HQ.out _ _ _ _ _ h) (by exact hHeld) (fun K hK => ?_)
    go_simp
    refine hK _ ?_
    clear hK K
    refine take_L (i := 6) rfl (by kernel_rfl) (by kernel_rfl) (by kernel_rfl) (by kernel_rfl) (fun _ _ _ _ h => HQ.out _ _ _ _ _ h) (by exact hHeld) (fun K hK => ?_)
    go_simp
    refine hK _ ?_
    clear hK K
    refine take_L (i := 7) rfl (by kernel_rfl) (by kernel_rfl) (by kernel_rfl) (by kernel_rfl) (fun _ _ _ _ h => HQ.out _ _ _ _ _ h) (by exact hHeld) (fun K hK => ?_)
    go_simp
    refine hK _ ?_
    clear hK K
    refine take_L (i := 8) rfl (by kernel_rfl) (by kernel_rfl) (by kernel_rfl) (by kernel_rfl) (fun _ _ _ _ h => HQ.out _ _ _ _ _ h) (by exact hHeld) (fun K hK => ?_)
    go_simp
    refine hK _ ?_
    clear hK K
    refine take_L (i := 9) rfl (by kernel_rfl) (by kernel_rfl) (by kernel_rfl) (by kernel_rfl) (fun _ _ _ _ h => HQ.out _ _ _ _ _ h) (by exact hHeld) (fun K hK => ?_)
    go_simp
    refine hK _ ?_
    clear hK K
    refine take_L (i := 10) rfl (by kernel_rfl) (by kernel_rfl) (by kernel_rfl) (by kernel_rfl) (fun _ _ _ _ h => HQ.out _ _ _ _ _ h) (by exact hHeld) (fun K hK => ?_)
    go_simp
    refine hK _ ?_
    clear hK K
    refine take_L (i := 11) rfl (by kernel_rfl) (by kernel_rfl) (by kernel_rfl) (by kernel_rfl) (fun _ _ _ _ h => HQ.out _ _ _ _ _ h) (by exact hHeld) (fun K hK => ?_)
    go_simp
    refine hK _ ?_
    clear hK K
    refine take_L (i := 12) rfl (by kernel_rfl) (by kernel_rfl) (by kernel_rfl) (by kernel_rfl) (fun _ _ _ _ h => HQ.out _ _ _ _ _ h) (by exact hHeld) (fun K hK => ?_)
    go_simp
    refine hK _ ?_
    clear hK K
    refine take_L (i := 13) rfl (by kernel_rfl) (by kernel_rfl) (by kernel_rfl) (by kernel_rfl) (fun _ _ _ _ h => HQ.out _ _ _ _ _ h) (by exact hHeld) (fun K hK => ?_)
    go_simp
    refine hK _ ?_
    clear hK K
    refine take_L (i := 14) rfl (by kernel_rfl) (by kernel_rfl) (by kernel_rfl) (by kernel_rfl) (fun _ _ _ _ h => HQ.out _ _ _ _ _ h) (by exact hHeld) (fun K hK => ?_)
    go_simp
    refine hK _ ?_
    clear hK K
    clear hne k0 k1
    have Hb1 : Hid (Below va.heap.size va (va.alloc (.cells #[.int .i64 (i : Int)] 3))) := (Below.refl _ _).alloc (Nat.le_refl _) _
    have hH1 : ReadsF e.gl e.gw i (v : Int) v (.slice (av v) Ln (cv v)) (va.alloc (.cells #[.int .i64 (i : Int)] 3)) := ⟨cell_below hHeld.l Hb1.out, cell_below hHeld.s Hb1.out⟩
    refine one_L (i := 15) (by kernel_rfl) rfl (fun K hK => ?_)
    go_simp
    refine hK.out _ _ (fun _ => hH1) ?_
    clear hK K hHeld
    have HS2 : Hid (Sf e ls i wait av cv (va.alloc (.cells #[.int .i64 (i : Int)] 3))) := HS1.out.on Hb1.out
    have HB : Hid (e.w0.heap.size ≤ (va.alloc (.cells #[.int .i64 (i : Int)] 3)).heap.size) := HS2.out.gr.size
    have HSl : Hid (∀ xs : List Int, xs = wI wait v → OwnI (va.alloc (.cells #[.int .i64 (i : Int)] 3)) e.w0.heap.size (av v) (cv v) xs) := fun xs h => by rw [h]; exact HS2.out.wt.own v v16
    refine one_W (i := 16) (by kernel_rfl) rfl (fun K hK => ?_)
    refine wpList_append_int rfl _ _ rfl e.w0.heap.size (av v) Ln (cv v) (wI wait v) HLn.out rfl (HSl.out _ rfl) ⟨va.heap.size, 0, none⟩ (i : Int) rfl (cell_one_int _ _ _) (by omega) HB.out ?_
    intro a9 c9 w9 HO3 hg3 hat3
    have f1 := (HS2.out.wt.kept v16 HLn.out hg3).1
    have f2 := (HS2.out.wt.kept v16 HLn.out hg3).2
    have hH9 : ReadsF e.gl e.gw i (v : Int) v (.slice (av v) Ln (cv v)) w9 := by
      obtain ⟨cu, hcu, _⟩ := HS2.out.pl
      exact ⟨HS2.out.wt.kept' v16 HLn.out hg3 hcu hH1.l, f1⟩
    refine hK.out _ _ (fun _ => hH9) ?_
    clear hK K
    have HE : Hid (Sf0 e ls (i + 1) (w9.setCell ⟨e.gw, v, none⟩ (.slice a9 (Ln + 1) c9))) := by
      have hLn := HLn.out
      have hr := HS2.out.push Hv.out v16 HO3.out (a' := a9) (c' := c9) (by rw [← hLn] at hg3; exact hg3) (by rw [← hLn] at hat3; exact hat3)
      rw [hLn] at hr
      exact ⟨_, _, _, hr⟩
    clear hH1 HSl HB HS1 HS2 HO3 hg3 hat3 Hb1
    have hne : Nonempty (Sub (ReadsF e.gl e.gw i (v : Int) v (.slice (av v) Ln (cv v)))) := ⟨⟨_, hH9⟩⟩
    refine take_L (i := 17) rfl (by kernel_rfl) (by kernel_rfl) (by kernel_rfl) (by kernel_rfl) (fun _ _ _ _ h => HQ.out _ _ _ _ _ h) (by exact hH9) (fun K hK => ?_)
    go_simp
    refine hK _ ?_
    clear hK K hne
    refine one_L (i := 18) (by kernel_rfl) rfl (fun K hK => ?_)
    go_simp
    refine hK.out _ _ (fun h => absurd rfl h) ?_
    clear hK K hH9
    refine done_L (by kernel_rfl) ?_ _
    go_wp2
    exact ⟨⟨i + 1, by omega, by simp, HE⟩, by simp [intOf]; omega⟩
end
section
open C Go.RowKit L

theorem info69 : (Tryd.prog.info? 69).map (fun i => (i.zero, i.size, i.bytes)) = some (some (.slice none 0 0), 1, 24) := by kernel_rfl
theorem make_16 (w : World) : (Instr.makeSlice 74 (.int .i64 16) (.int .i64 16)).run Tryd.prog w = .ok (.slice (some ⟨w.heap.size, 0, none⟩) 16 16) (w.alloc (.cells (Array.replicate 16 (.slice none 0 0)) 69)) := by
  obtain ⟨i0, hi, hz0, hz1, hz2⟩ := info_parts info69
  have := run_makeSlice (P := Tryd.prog) w 74 69 i0 _ Tryd.underlying74 hi hz0 .i64 .i64 16 16 (by omega) (by omega) (by rw [hz1]; omega) (by rw [hz2]; omega) (by omega)
  have e : madeCells #[.slice none 0 0] 16 = Array.replicate 16 (.slice none 0 0) := Array.toList_inj.1 (by rw [toList_madeCells_one]; rfl)
  rw [hz1] at this
  rw [← e]
  simpa [Value.cells] using this
theorem Sf.start (e : SpE) (ls : List Int) (W1 : World) (hW : W1 = e.w0.alloc (.cells (Array.replicate 16 (.slice none 0 0)) 69)) (hw : e.gw = e.w0.heap.size) (pl : Pre e.w0 e.gl 5 ls) (fd : Fd e.w0 e.g e.W e.D e.T (.slice (some ⟨e.kb, 0, none⟩) e.N e.cap)) (pk : Pre e.w0 e.kb 5 e.ks) : Sf0 e ls 0 W1 := by
  subst hW
  have hb : Below e.w0.heap.size e.w0 (e.w0.alloc (.cells (Array.replicate 16 (.slice none 0 0)) 69)) := (Below.refl _ _).alloc (Nat.le_refl _) _
  have hnew : (e.w0.alloc (.cells (Array.replicate 16 (.slice none 0 0)) 69)).heap[e.w0.heap.size]? = some (.cells (Array.replicate 16 (.slice none 0 0)) 69 (0, 0)) := heap_alloc_new _ _
  refine ⟨fun _ => [], fun _ => none, fun _ => 0, pl.below hb pl.lt, fd.on hb, pk.below hb pk.lt, ⟨⟨_, by rw [hw]; exact hnew, by simp⟩, fun v hv => ?_, fun v _ => ⟨rfl, .inl ⟨rfl, rfl⟩⟩, fun u v g _ _ _ h => by simp [Value.ownBlock] at h, Nat.le_of_eq hw.symm⟩, fun j hj => absurd hj (Nat.not_lt_zero _), fun v j hj => absurd hj List.not_mem_nil, fun v => Nat.le_refl _, ⟨hb.os, hb.tape, hb.output, hb.size, fun j hj _ => hb.block j hj⟩⟩
  rw [hw, cell_of_row _ _ v _ 69 (0, 0) hnew, Array.getElem?_replicate, if_pos hv]
  rfl
theorem Sf.sp {e : SpE} {s : L.Sys} {ls : List Int} {W : World} (o : SpO e s) (hlen : ls.length = e.N) (hLv : Lv ls) (hs : ∀ i, li ls i = s.src i) (h : Sf0 e ls e.N W) : Sp2 e s 15 W := by
  obtain ⟨wait, av, cv, h⟩ := h
  have hn : s.n = e.N := o.sn
  refine ⟨ls, wait, av, cv, ⟨Bk.start hs (fun i hi => h.full i (by omega)) (fun v i hi => ?_), hlen, hLv, h.pl, h.fd, h.pk, h.wt, fun v => ?_, h.gr⟩⟩
  · have := h.ids v i hi; omega
  · have := h.sz v; omega
set_option maxRecDepth 1000000 in
set_option maxHeartbeats 8000000 in
theorem rspread_c (e : SpE) (s : L.Sys) (ls : List Int) (cl : Nat) (hg : e.gw = e.w0.heap.size) (o : SpO e s) (hlen : ls.length = e.N) (hLv : Lv ls) (hs : ∀ i, li ls i = s.src i) (pl : Pre e.w0 e.gl 5 ls) (fd : Fd e.w0 e.g e.W e.D e.T (.slice (some ⟨e.kb, 0, none⟩) e.N e.cap)) (pk : Pre e.w0 e.kb 5 e.ks) :
    Calls Tryd.prog 26 #[.pointer (some ⟨e.g, 0, none⟩), .slice (some ⟨e.gl, 0, none⟩) e.N cl] e.w0 fun en w' => en = .returned (.tuple #[]) ∧ ∃ ls', L.Told s (li ls') ∧ Lv ls' ∧ ls'.length = e.N ∧ Pre w' e.gl 5 ls' ∧ e.w0.grownBy w' (some e.gl) := by
  obtain ⟨Post, hPost⟩ : ∃ Post : Ending → World → Prop, Post = fun en w' => en = .returned (.tuple #[]) ∧ ∃ ls', L.Told s (li ls') ∧ Lv ls' ∧ ls'.length = e.N ∧ Pre w' e.gl 5 ls' ∧ e.w0.grownBy w' (some e.gl) := ⟨_, rfl⟩
  rw [← hPost]
  have HP : Hid (∀ w', Sp2 e s 1 w' → Post (.returned (.tuple #[])) w') := fun w' h => by
    rw [hPost]
    obtain ⟨ls', wait, av, cv, h⟩ := h
    refine ⟨rfl, ls', h.bk.told (fun j i ha => ?_), h.lv, h.len, h.pl, h.gr⟩
    have := ((o.adj j i).1 ha).1
    rw [o.sn]
    exact this
  clear hPost
  have hmk := make_16 e.w0
  obtain ⟨W1, hW1⟩ : ∃ W1, W1 = e.w0.alloc (.cells (Array.replicate 16 (.slice none 0 0)) 69) := ⟨_, rfl⟩
  have H0 : Hid (Sf0 e ls 0 W1) := Sf.start e ls W1 hW1 hg pl fd pk
  have HO : Hid (SpO e s ∧ ls.length = e.N ∧ Lv ls ∧ ∀ i, li ls i = s.src i) := ⟨o, hlen, hLv, hs⟩
  rw [← hW1, ← hg] at hmk
  clear hW1 hg o hlen hLv hs pl fd pk
  go_enter Tryd.func26, Tryd.ntmps26
  go_wp2_with fail
  refine sp_loop0 _ (fun d _ _ _ _ h => by cases d <;> exact h) e ls HO.out.1.nb HO.out.2.1 HO.out.2.2.1 cl W1 H0.out ?_
  intro z5 z14 z15 z16 z17 z18 z19 z20 z21 z22 z23 z24 z25 z26 z27 z28 z29 z30 z31 z32 z33 z34 z35 z36 z37 W2 h2
  have H2 : Hid (Sp2 e s 15 W2) := Sf.sp HO.out.1 HO.out.2.1 HO.out.2.2.1 HO.out.2.2.2 h2
  clear h2 H0 hmk
  go_wp2_with fail
  refine sp_loop2 _ e s HO.out.1 cl W2 H2.out ?_
  intro y6 y7 y8 y9 y10 y11 y12 y38 y39 y40 y41 y42 y43 y44 y45 y46 y47 y48 y49 y50 y51 y52 y53 y54 y55 y56 y57 y58 y59 y60 y61 y62 y63 y64 y65 y66 y67 y68 y69 y70 y71 y72 y73 y74 y75 y76 y77 y78 y79 y80 y81 y82 y83 y84 y85 y86 y87 y88 y89 y90 y91 y92 y93 y94 y95 y96 y97 y98 y99 y100 y101 y102 y103 y104 y105 y106 y107 y108 y109 y110 y111 y112 y113 y114 y115 y116 y117 y118 y119 y120 y121 y122 y123 y124 y125 y126 y127 y128 y129 y130 y131 y132 W3 h3
  have H3 : Hid (Sp2 e s 1 W3) := h3
  clear h3 H2 HO
  go_wp2
  exact bodyPost_end (results_none rfl _ _ _) rfl (HP.out _ H3.out)
end
end Go.Proofs.YtmfjmcaaoljjlaaDoor
