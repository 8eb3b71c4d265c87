/-
  The laws' Scape: nine rows of air.
  The laws' Scape: where it stands.
  The laws' Scape: the cells of a box along x.
-/
import Derived.Test.YtjeapaojbkicmabDoorLmany
import Derived.Test.YtjeapaojbkicmabDoorLsp6
import Derived.Test.YtjeapaojbkicmabDoorCTops
import Derived.Test.YtjeapaojbkicmabDoorLLaws
import Derived.Test.YtjeapaojbkicmabDoorLred
set_option maxRecDepth 20000
namespace Go.Proofs.YtjeapaojbkicmabDoor
section
open C Go.RowKit L

def Air9 (w : World) (i : Nat) (av : Option Addr) (cv : Nat) (W : World) : Prop := ∃ gs, Many w 28 5 slV (fun _ => List.replicate 32768 0) i av cv gs W
set_option maxRecDepth 1000000 in
set_option maxHeartbeats 8000000 in
theorem scp_loop0 (Q : Exit → Act → World → Prop) {c0 c1 c2 c5 c6 c7 c8 c9 c10 c11 c12 c21 c22 c23 c24 c25 c26 c27 c28 c29 c30 c31 c32 c33 c34 c35 c36 c37 c38 c39 c40 c41 c42 c43 c44 c45 c46 c47 c48 c49 c50 c51 c52 c53 c54 c55 c56 c57 c58 c59 c60 c61 c62 c63 c64 c65 c66 c67 c68 c69 c70 c71 c72 c73 c74 c75 c76 c77 c78 c79 c80 c81 c82 c83 c84 c85 c86 c87 c88 c89 c90 c91 c92 c93 c94 c95 c96 c97 c98 c99 c100 c101 c102 c103 c104 c105 c106 c107 c108 c109 c110 c111 c112 c113 c114 c115 c116 c117 c118 c119 c120 c121 c122 c123 c124 c125 c126 c127 v13 v14 v15 v16 v17 v18 v19 v20 : Value} (w : World)
    (hexit : ∀ (u4 u13 u14 u15 u16 u17 u18 u19 u20 : Value) (av : Option Addr) (cv : Nat) (W' : World), Air9 w 9 av cv W' → Q (.exit 0) ⟨List.toArray (c0 :: c1 :: c2 :: (.slice av 9 cv) :: u4 :: c5 :: c6 :: c7 :: c8 :: c9 :: c10 :: c11 :: c12 :: u13 :: u14 :: u15 :: u16 :: u17 :: u18 :: u19 :: u20 :: c21 :: c22 :: c23 :: c24 :: c25 :: c26 :: c27 :: c28 :: c29 :: c30 :: c31 :: c32 :: c33 :: c34 :: c35 :: c36 :: c37 :: c38 :: c39 :: c40 :: c41 :: c42 :: c43 :: c44 :: c45 :: c46 :: c47 :: c48 :: c49 :: c50 :: c51 :: c52 :: c53 :: c54 :: c55 :: c56 :: c57 :: c58 :: c59 :: c60 :: c61 :: c62 :: c63 :: c64 :: c65 :: c66 :: c67 :: c68 :: c69 :: c70 :: c71 :: c72 :: c73 :: c74 :: c75 :: c76 :: c77 :: c78 :: c79 :: c80 :: c81 :: c82 :: c83 :: c84 :: c85 :: c86 :: c87 :: c88 :: c89 :: c90 :: c91 :: c92 :: c93 :: c94 :: c95 :: c96 :: c97 :: c98 :: c99 :: c100 :: c101 :: c102 :: c103 :: c104 :: c105 :: c106 :: c107 :: c108 :: c109 :: c110 :: c111 :: c112 :: c113 :: c114 :: c115 :: c116 :: c117 :: c118 :: c119 :: c120 :: c121 :: c122 :: c123 :: c124 :: c125 :: c126 :: c127 :: []), []⟩ W') :
    Code.wp Tryd.prog ((Tryd.f5.body.bind (blkOf 0)).getD .skip) Q ⟨List.toArray (c0 :: c1 :: c2 :: (.slice none 0 0) :: (.int .i64 0) :: c5 :: c6 :: c7 :: c8 :: c9 :: c10 :: c11 :: c12 :: v13 :: v14 :: v15 :: v16 :: v17 :: v18 :: v19 :: v20 :: c21 :: c22 :: c23 :: c24 :: c25 :: c26 :: c27 :: c28 :: c29 :: c30 :: c31 :: c32 :: c33 :: c34 :: c35 :: c36 :: c37 :: c38 :: c39 :: c40 :: c41 :: c42 :: c43 :: c44 :: c45 :: c46 :: c47 :: c48 :: c49 :: c50 :: c51 :: c52 :: c53 :: c54 :: c55 :: c56 :: c57 :: c58 :: c59 :: c60 :: c61 :: c62 :: c63 :: c64 :: c65 :: c66 :: c67 :: c68 :: c69 :: c70 :: c71 :: c72 :: c73 :: c74 :: c75 :: c76 :: c77 :: c78 :: c79 :: c80 :: c81 :: c82 :: c83 :: c84 :: c85 :: c86 :: c87 :: c88 :: c89 :: c90 :: c91 :: c92 :: c93 :: c94 :: c95 :: c96 :: c97 :: c98 :: c99 :: c100 :: c101 :: c102 :: c103 :: c104 :: c105 :: c106 :: c107 :: c108 :: c109 :: c110 :: c111 :: c112 :: c113 :: c114 :: c115 :: c116 :: c117 :: c118 :: c119 :: c120 :: c121 :: c122 :: c123 :: c124 :: c125 :: c126 :: c127 :: []), []⟩ w := by
  have HX : Hid (∀ (u4 u13 u14 u15 u16 u17 u18 u19 u20 : Value) (av : Option Addr) (cv : Nat) (W' : World), Air9 w 9 av cv W' → Q (.exit 0) ⟨List.toArray (c0 :: c1 :: c2 :: (.slice av 9 cv) :: u4 :: c5 :: c6 :: c7 :: c8 :: c9 :: c10 :: c11 :: c12 :: u13 :: u14 :: u15 :: u16 :: u17 :: u18 :: u19 :: u20 :: c21 :: c22 :: c23 :: c24 :: c25 :: c26 :: c27 :: c28 :: c29 :: c30 :: c31 :: c32 :: c33 :: c34 :: c35 :: c36 :: c37 :: c38 :: c39 :: c40 :: c41 :: c42 :: c43 :: c44 :: c45 :: c46 :: c47 :: c48 :: c49 :: c50 :: c51 :: c52 :: c53 :: c54 :: c55 :: c56 :: c57 :: c58 :: c59 :: c60 :: c61 :: c62 :: c63 :: c64 :: c65 :: c66 :: c67 :: c68 :: c69 :: c70 :: c71 :: c72 :: c73 :: c74 :: c75 :: c76 :: c77 :: c78 :: c79 :: c80 :: c81 :: c82 :: c83 :: c84 :: c85 :: c86 :: c87 :: c88 :: c89 :: c90 :: c91 :: c92 :: c93 :: c94 :: c95 :: c96 :: c97 :: c98 :: c99 :: c100 :: c101 :: c102 :: c103 :: c104 :: c105 :: c106 :: c107 :: c108 :: c109 :: c110 :: c111 :: c112 :: c113 :: c114 :: c115 :: c116 :: c117 :: c118 :: c119 :: c120 :: c121 :: c122 :: c123 :: c124 :: c125 :: c126 :: c127 :: []), []⟩ W') := hexit
  have H0 : Hid (Air9 w 0 none 0 w) := ⟨[], Many.init⟩
  clear hexit
  conv => arg 2; whnf
  go_loopw [3, 4] (fun vo vi wr => ∃ (i : Nat) (av : Option Addr) (cv : Nat), i ≤ 9 ∧ vo = .slice av i cv ∧ vi = .int .i64 (i : Int) ∧ Hid (Air9 w i av cv wr)) (fun _ vi _ => 9 - (intOf vi).toNat)
  case atStart => exact ⟨0, none, 0, by omega, rfl, rfl, H0⟩
  case round =>
    clear H0
    obtain ⟨i, av, cv, hi, rfl, rfl, HM⟩ := hrel
    by_cases hlt : i < 9
    case neg =>
      have hge : ¬ (i : Int) < 9 := by omega
      obtain rfl : i = 9 := by omega
      go_wp2
      exact HX.out _ _ _ _ _ _ _ _ _ _ _ _ HM.out
    have hlt' : (i : Int) < 9 := by omega
    have hnew := rnew_c 0 (by omega) (by omega) wr
    clear HX
    go_wp2_with fail
    refine hnew.mono ?_
    rintro _ w1 ⟨rfl, hB1, hb1⟩
    clear hnew
    obtain ⟨gs, hM⟩ := HM.out
    have HM1 : Hid (Many w 28 5 slV (fun _ => List.replicate 32768 0) i av cv gs (w1.alloc (.cells #[slV wr.heap.size] 28)) ∧ Blk (w1.alloc (.cells #[slV wr.heap.size] 28)) wr.heap.size 5 (List.replicate 32768 0) ∧ wr.heap.size ∉ gs ∧ w.heap.size ≤ wr.heap.size) := by
      have hm1 := hM.on hb1
      have hb2 : Below w1.heap.size w1 (w1.alloc (.cells #[slV wr.heap.size] 28)) := (Below.refl _ _).alloc (Nat.le_refl _) _
      exact ⟨hm1.on hb2, hB1.below hb2 hB1.lt, fun h => absurd (hM.lt _ h) (Nat.lt_irrefl _), hM.bel.size⟩
    clear HM hM hB1 hb1
    obtain ⟨g, hg⟩ : ∃ g, wr.heap.size = g := ⟨_, rfl⟩
    rw [hg] at HM1 ⊢
    clear hg
    go_wp2_with (at_builtin; refine wpList_append_val 24 28 _ _ Tryd.underlying24 info28 rfl (by omega) rfl _ _ rfl w.heap.size av i cv (gs.map slV) rfl HM1.out.1.own ⟨w1.heap.size, 0, none⟩ (slV g) rfl (cell_new _ _ _) rfl (by omega) HM1.out.1.bel.size ?_; intro a9 c9 w9 ho9 hg9; have HE : Hid (Air9 w (i + 1) a9 c9 w9) := ⟨_, HM1.out.1.add (by decide) HM1.out.2.1 HM1.out.2.2.2 HM1.out.2.2.1 ho9 hg9⟩; clear ho9 hg9)
    exact ⟨⟨i + 1, a9, c9, by omega, rfl, by simp, HE⟩, by simp [intOf]; omega⟩
end
section
open C Go.RowKit L

/-- One cell of nine rows is another one. -/
def setC (css : List (List Int)) (j k : Nat) (v : Int) : List (List Int) := css.set j ((css.getD j []).set k v)
theorem setC_at (css : List (List Int)) {j : Nat} (k : Nat) (v : Int) (hj : j < css.length) (i : Nat) : (setC css j k v).getD i [] = if i = j then (css.getD j []).set k v else css.getD i [] := by
  unfold setC
  by_cases e : i = j
  · subst e
    rw [if_pos rfl, List.getD_eq_getElem?_getD, List.getElem?_set_self hj]
    rfl
  · rw [if_neg e, List.getD_eq_getElem?_getD, List.getElem?_set_ne (Ne.symm e), ← List.getD_eq_getElem?_getD]
/-- What the nine rows are, cell by cell. -/
structure Sh (css : List (List Int)) (F : Nat → Nat → Nat → Int) : Prop where
  n : css.length = 9
  len : ∀ j, j < 9 → (css.getD j []).length = 32768
  at_ : ∀ x z y, x < 48 → z < 48 → y < 128 → (css.getD (z / 16 * 3 + x / 16) []).getD (y * 256 + z % 16 * 16 + x % 16) 0 = F x z y
def turnF (F : Nat → Nat → Nat → Int) (x z y : Nat) (v : Int) : Nat → Nat → Nat → Int := fun x' z' y' => if x' = x ∧ z' = z ∧ y' = y then v else F x' z' y'
theorem Sh.set {css : List (List Int)} {F : Nat → Nat → Nat → Int} (h : Sh css F) {x z y : Nat} (hx : x < 48) (hz : z < 48) (hy : y < 128) (v : Int) : Sh (setC css (z / 16 * 3 + x / 16) (y * 256 + z % 16 * 16 + x % 16) v) (turnF F x z y v) := by
  have hn := h.n
  refine ⟨by unfold setC; rw [List.length_set]; exact hn, fun j hj => ?_, fun x' z' y' hx' hz' hy' => ?_⟩
  · rw [setC_at css _ v (by omega)]
    by_cases e : j = z / 16 * 3 + x / 16
    · rw [if_pos e, List.length_set]; exact h.len _ (by omega)
    · rw [if_neg e]; exact h.len j hj
  · rw [setC_at css _ v (by omega)]
    unfold turnF
    by_cases e : z' / 16 * 3 + x' / 16 = z / 16 * 3 + x / 16
    · rw [if_pos e]
      by_cases e2 : y' * 256 + z' % 16 * 16 + x' % 16 = y * 256 + z % 16 * 16 + x % 16
      · rw [if_pos (by omega), e2, C.getD_set_self _ _ v (by rw [h.len _ (by omega)]; omega)]
      · rw [if_neg (by rintro ⟨rfl, rfl, rfl⟩; exact e2 rfl), C.getD_set_ne _ v (Ne.symm e2), ← e]
        exact h.at_ x' z' y' hx' hz' hy'
    · rw [if_neg e, if_neg (by rintro ⟨rfl, rfl, rfl⟩; exact e rfl)]
      exact h.at_ x' z' y' hx' hz' hy'
/-- What does not change while boxes are laid. -/
structure ScE where
  b : Nat
  gs : Nat → Nat
  w0 : World
structure ScO (e : ScE) : Prop where
  ap : ∀ i j, i < 9 → j < 9 → e.gs i = e.gs j → i = j
  nb : ∀ j, j < 9 → e.gs j ≠ e.b
  row : ∀ j, j < 9 → e.w0.cell? ⟨e.b, j, none⟩ = some (slV (e.gs j))
structure Sc (e : ScE) (css : List (List Int)) (F : Nat → Nat → Nat → Int) (W : World) : Prop where
  sh : Sh css F
  blk : ∀ j, j < 9 → Blk W (e.gs j) 5 (css.getD j [])
  os : W.os = e.w0.os
  tape : W.tape = e.w0.tape
  output : W.output = e.w0.output
  size : W.heap.size = e.w0.heap.size
  same : ∀ k, (∀ j, j < 9 → k ≠ e.gs j) → W.heap[k]? = e.w0.heap[k]?
theorem Sc.cell {e : ScE} {css : List (List Int)} {F : Nat → Nat → Nat → Int} {W : World} (h : Sc e css F W) {p : Addr} (hp : ∀ j, j < 9 → p.block ≠ e.gs j) : W.cell? p = e.w0.cell? p := by
  simp only [World.cell?, h.same p.block hp]
theorem Sc.row {e : ScE} {css : List (List Int)} {F : Nat → Nat → Nat → Int} {W : World} (o : ScO e) (h : Sc e css F W) {j : Nat} (hj : j < 9) : W.cell? ⟨e.b, j, none⟩ = some (slV (e.gs j)) :=
  (h.cell (p := ⟨e.b, j, none⟩) (fun i hi q => o.nb i hi q.symm)).trans (o.row j hj)
theorem Sc.set {e : ScE} {css : List (List Int)} {F : Nat → Nat → Nat → Int} {W : World} (o : ScO e) (h : Sc e css F W) {x z y : Nat} (hx : x < 48) (hz : z < 48) (hy : y < 128) (v : Int) :
    Sc e (setC css (z / 16 * 3 + x / 16) (y * 256 + z % 16 * 16 + x % 16) v) (turnF F x z y v) (W.setCell ⟨e.gs (z / 16 * 3 + x / 16), y * 256 + z % 16 * 16 + x % 16, none⟩ (.int .u8 v)) := by
  have hn := h.sh.n
  refine ⟨h.sh.set hx hz hy v, fun j hj => ?_, h.os, h.tape, h.output, by rw [← h.size]; simp [World.setCell], fun k hk => ?_⟩
  · rw [setC_at css _ v (by omega)]
    by_cases q : j = z / 16 * 3 + x / 16
    · rw [if_pos q, q]
      exact (h.blk _ (by omega)).set _ v
    · rw [if_neg q]
      exact (Below.heap_setCell W _ _ (e.gs j) (fun q2 => q (o.ap j _ hj (by omega) q2))).trans (h.blk j hj)
  · exact (Below.heap_setCell W _ _ k (fun q2 => hk _ (by omega) q2)).trans (h.same k hk)
end
section
open C Go.RowKit L

def boxX (F : Nat → Nat → Nat → Int) (x0 X z y : Nat) (v : Int) : Nat → Nat → Nat → Int := fun x' z' y' => if x0 ≤ x' ∧ x' < X ∧ z' = z ∧ y' = y then v else F x' z' y'
theorem boxX_start (F : Nat → Nat → Nat → Int) (x0 z y : Nat) (v : Int) : boxX F x0 x0 z y v = F := by
  funext x' z' y'
  unfold boxX
  rw [if_neg (by omega)]
theorem boxX_next (F : Nat → Nat → Nat → Int) {x0 X : Nat} (z y : Nat) (v : Int) (h : x0 ≤ X) : turnF (boxX F x0 X z y v) X z y v = boxX F x0 (X + 1) z y v := by
  funext x' z' y'
  unfold turnF boxX
  by_cases e : x' = X ∧ z' = z ∧ y' = y
  · rw [if_pos e, if_pos (by omega)]
  · rw [if_neg e]
    by_cases e2 : x0 ≤ x' ∧ x' < X ∧ z' = z ∧ y' = y
    · rw [if_pos e2, if_pos (by omega)]
    · rw [if_neg e2, if_neg (by omega)]
def ScX (e : ScE) (F : Nat → Nat → Nat → Int) (W : World) : Prop := ∃ css, Sc e css F W
set_option maxRecDepth 1000000 in
set_option maxHeartbeats 8000000 in
theorem scp_loop8 (Q : Exit → Act → World → Prop) {c1 c2 c4 c7 c8 c13 c14 c15 c16 c17 c18 c19 c20 c21 c22 c23 c24 c25 c26 c27 c28 c29 c30 c31 c32 c33 c34 c35 c36 c37 c38 c39 c40 c41 c42 c43 c44 c45 c46 c47 c48 c49 c50 c51 c52 c53 c54 c55 c56 c57 c58 c59 c60 c61 c62 c63 c64 c65 c66 c67 c68 c69 c70 c71 c72 c73 c74 c75 c76 c77 c78 c79 c80 c81 c82 c83 c84 c85 c86 c87 c88 c89 c90 c127 v91 v92 v93 v94 v95 v96 v97 v98 v99 v100 v101 v102 v103 v104 v105 v106 v107 v108 v109 v110 v111 v112 v113 v114 v115 v116 v117 v118 v119 v120 v121 v122 v123 v124 v125 v126 : Value} (e : ScE) (o : ScO e) (F : Nat → Nat → Nat → Int) (lb lo n lc cv i x0 y z : Nat) (v pw : Int) (hi : i < n) (hx0 : x0 < 48) (hy : y < 128) (hz : z < 48)
    (hlb : ∀ j, j < 9 → lb ≠ e.gs j) (hc : e.w0.cell? ⟨lb, lo + i * 7 + 3, none⟩ = some (.int .i64 pw)) (W : World) (h0 : ScX e F W)
    (hexit : ∀ (u12 u91 u92 u93 u94 u95 u96 u97 u98 u99 u100 u101 u102 u103 u104 u105 u106 u107 u108 u109 u110 u111 u112 u113 u114 u115 u116 u117 u118 u119 u120 u121 u122 u123 u124 u125 u126 : Value) (W' : World), ScX e (boxX F x0 (min 48 (x0 + (pw % 48).toNat + 1)) z y v) W' → Q (.exit 8) ⟨List.toArray ((.slice (some ⟨lb, lo, none⟩) n lc) :: c1 :: c2 :: (.slice (some ⟨e.b, 0, none⟩) 9 cv) :: c4 :: (.int .i64 (i : Int)) :: (.int .i64 (x0 : Int)) :: c7 :: c8 :: (.int .u8 v) :: (.int .i64 (y : Int)) :: (.int .i64 (z : Int)) :: u12 :: c13 :: c14 :: c15 :: c16 :: c17 :: c18 :: c19 :: c20 :: c21 :: c22 :: c23 :: c24 :: c25 :: c26 :: c27 :: c28 :: c29 :: c30 :: c31 :: c32 :: c33 :: c34 :: c35 :: c36 :: c37 :: c38 :: c39 :: c40 :: c41 :: c42 :: c43 :: c44 :: c45 :: c46 :: c47 :: c48 :: c49 :: c50 :: c51 :: c52 :: c53 :: c54 :: c55 :: c56 :: c57 :: c58 :: c59 :: c60 :: c61 :: c62 :: c63 :: c64 :: c65 :: c66 :: c67 :: c68 :: c69 :: c70 :: c71 :: c72 :: c73 :: c74 :: c75 :: c76 :: c77 :: c78 :: c79 :: c80 :: c81 :: c82 :: c83 :: c84 :: c85 :: c86 :: c87 :: c88 :: c89 :: c90 :: u91 :: u92 :: u93 :: u94 :: u95 :: u96 :: u97 :: u98 :: u99 :: u100 :: u101 :: u102 :: u103 :: u104 :: u105 :: u106 :: u107 :: u108 :: u109 :: u110 :: u111 :: u112 :: u113 :: u114 :: u115 :: u116 :: u117 :: u118 :: u119 :: u120 :: u121 :: u122 :: u123 :: u124 :: u125 :: u126 :: c127 :: []), []⟩ W') :
    Code.wp Tryd.prog ((Tryd.f5.body.bind (blkOf 8)).getD .skip) Q ⟨List.toArray ((.slice (some ⟨lb, lo, none⟩) n lc) :: c1 :: c2 :: (.slice (some ⟨e.b, 0, none⟩) 9 cv) :: c4 :: (.int .i64 (i : Int)) :: (.int .i64 (x0 : Int)) :: c7 :: c8 :: (.int .u8 v) :: (.int .i64 (y : Int)) :: (.int .i64 (z : Int)) :: (.int .i64 (x0 : Int)) :: c13 :: c14 :: c15 :: c16 :: c17 :: c18 :: c19 :: c20 :: c21 :: c22 :: c23 :: c24 :: c25 :: c26 :: c27 :: c28 :: c29 :: c30 :: c31 :: c32 :: c33 :: c34 :: c35 :: c36 :: c37 :: c38 :: c39 :: c40 :: c41 :: c42 :: c43 :: c44 :: c45 :: c46 :: c47 :: c48 :: c49 :: c50 :: c51 :: c52 :: c53 :: c54 :: c55 :: c56 :: c57 :: c58 :: c59 :: c60 :: c61 :: c62 :: c63 :: c64 :: c65 :: c66 :: c67 :: c68 :: c69 :: c70 :: c71 :: c72 :: c73 :: c74 :: c75 :: c76 :: c77 :: c78 :: c79 :: c80 :: c81 :: c82 :: c83 :: c84 :: c85 :: c86 :: c87 :: c88 :: c89 :: c90 :: v91 :: v92 :: v93 :: v94 :: v95 :: v96 :: v97 :: v98 :: v99 :: v100 :: v101 :: v102 :: v103 :: v104 :: v105 :: v106 :: v107 :: v108 :: v109 :: v110 :: v111 :: v112 :: v113 :: v114 :: v115 :: v116 :: v117 :: v118 :: v119 :: v120 :: v121 :: v122 :: v123 :: v124 :: v125 :: v126 :: c127 :: []), []⟩ W := by
  obtain ⟨d, hd⟩ : ∃ d : Nat, (pw % 48).toNat = d := ⟨_, rfl⟩
  have hd' : pw % 48 = (d : Int) := by omega
  have hd47 : d ≤ 47 := by omega
  rw [hd] at hexit
  obtain ⟨M, hM⟩ : ∃ M, min 48 (x0 + d + 1) = M := ⟨_, rfl⟩
  rw [hM] at hexit
  have HX : Hid (∀ (u12 u91 u92 u93 u94 u95 u96 u97 u98 u99 u100 u101 u102 u103 u104 u105 u106 u107 u108 u109 u110 u111 u112 u113 u114 u115 u116 u117 u118 u119 u120 u121 u122 u123 u124 u125 u126 : Value) (W' : World), ScX e (boxX F x0 M z y v) W' → Q (.exit 8) ⟨List.toArray ((.slice (some ⟨lb, lo, none⟩) n lc) :: c1 :: c2 :: (.slice (some ⟨e.b, 0, none⟩) 9 cv) :: c4 :: (.int .i64 (i : Int)) :: (.int .i64 (x0 : Int)) :: c7 :: c8 :: (.int .u8 v) :: (.int .i64 (y : Int)) :: (.int .i64 (z : Int)) :: u12 :: c13 :: c14 :: c15 :: c16 :: c17 :: c18 :: c19 :: c20 :: c21 :: c22 :: c23 :: c24 :: c25 :: c26 :: c27 :: c28 :: c29 :: c30 :: c31 :: c32 :: c33 :: c34 :: c35 :: c36 :: c37 :: c38 :: c39 :: c40 :: c41 :: c42 :: c43 :: c44 :: c45 :: c46 :: c47 :: c48 :: c49 :: c50 :: c51 :: c52 :: c53 :: c54 :: c55 :: c56 :: c57 :: c58 :: c59 :: c60 :: c61 :: c62 :: c63 :: c64 :: c65 :: c66 :: c67 :: c68 :: c69 :: c70 :: c71 :: c72 :: c73 :: c74 :: c75 :: c76 :: c77 :: c78 :: c79 :: c80 :: c81 :: c82 :: c83 :: c84 :: c85 :: c86 :: c87 :: c88 :: c89 :: c90 :: u91 :: u92 :: u93 :: u94 :: u95 :: u96 :: u97 :: u98 :: u99 :: u100 :: u101 :: u102 :: u103 :: u104 :: u105 :: u106 :: u107 :: u108 :: u109 :: u110 :: u111 :: u112 :: u113 :: u114 :: u115 :: u116 :: u117 :: u118 :: u119 :: u120 :: u121 :: u122 :: u123 :: u124 :: u125 :: u126 :: c127 :: []), []⟩ W') := hexit
  have H0 : Hid (ScX e (boxX F x0 x0 z y v) W) := by rw [boxX_start]; exact h0
  have HO : Hid (ScO e ∧ (∀ j, j < 9 → lb ≠ e.gs j) ∧ e.w0.cell? ⟨lb, lo + i * 7 + 3, none⟩ = some (.int .i64 pw)) := ⟨o, hlb, hc⟩
  have hred := fun w => reduced_c pw 48 (by omega) (by omega) w
  rw [hd'] at hred
  have hin : (i : Int) < (n : Int) := by omega
  have hM1 : M ≤ 48 ∧ M ≤ x0 + d + 1 ∧ (M = 48 ∨ M = x0 + d + 1) ∧ x0 ≤ M := by omega
  clear h0 hexit o hlb hc hd hd' hM
  conv => arg 2; whnf
  go_loopw [12] (fun vx wr => ∃ X : Nat, x0 ≤ X ∧ X ≤ M ∧ vx = .int .i64 (X : Int) ∧ Hid (ScX e (boxX F x0 X z y v) wr)) (fun vx _ => 48 - (intOf vx).toNat)
  case atStart => exact ⟨x0, by omega, by omega, rfl, H0⟩
  case round =>
    clear H0
    obtain ⟨X, hX0, hXM, rfl, HS⟩ := hrel
    obtain ⟨css, hS⟩ := HS.out
    have y0 : wr.cell? ⟨lb, lo + i * 7 + 3, none⟩ = some (.int .i64 pw) := (hS.cell (p := ⟨lb, lo + i * 7 + 3, none⟩) HO.out.2.1).trans HO.out.2.2
    have HS1 : Hid (Sc e css (boxX F x0 X z y v) wr) := hS
    clear HS hS
    have wx : IntKind.i64.wrap ((x0 : Int) + (d : Int)) = ((x0 + d : Nat) : Int) := by rw [IntKind.wrap_i64]; omega
    go_wp2_with fail
    refine (hred _).mono ?_
    rintro _ w5 ⟨rfl, hw⟩
    replace hw := hw.symm
    subst hw
    clear hred
    by_cases hle : X ≤ x0 + d
    case neg =>
      have hle' : ¬ (X : Int) ≤ ((x0 + d : Nat) : Int) := by omega
      have HE : Hid (ScX e (boxX F x0 M z y v) wr) := by
        obtain rfl : X = M := by omega
        exact ⟨css, HS1.out⟩
      clear HS1 HO
      go_wp2
      exact HX.out _ _ _ _ _ _ _ _ _ _ _ _ _ _ _ _ _ _ _ _ _ _ _ _ _ _ _ _ _ _ _ _ _ _ _ _ _ _ HE.out
    have hle' : (X : Int) ≤ ((x0 + d : Nat) : Int) := by omega
    by_cases hlt : X < 48
    case neg =>
      have hlt' : ¬ (X : Int) < 48 := by omega
      have HE : Hid (ScX e (boxX F x0 M z y v) wr) := by
        obtain rfl : X = M := by omega
        exact ⟨css, HS1.out⟩
      clear HS1 HO
      go_wp2
      exact HX.out _ _ _ _ _ _ _ _ _ _ _ _ _ _ _ _ _ _ _ _ _ _ _ _ _ _ _ _ _ _ _ _ _ _ _ _ _ _ HE.out
    have hlt' : (X : Int) < 48 := by omega
    clear HX
    obtain ⟨zq, hzq⟩ : ∃ q, z / 16 = q := ⟨_, rfl⟩
    obtain ⟨zr, hzr⟩ : ∃ q, z % 16 = q := ⟨_, rfl⟩
    obtain ⟨xq, hxq⟩ : ∃ q, X / 16 = q := ⟨_, rfl⟩
    obtain ⟨xr, hxr⟩ : ∃ q, X % 16 = q := ⟨_, rfl⟩
    have t1 : Int.tdiv (z : Int) 16 = (zq : Int) := by rw [Int.tdiv_eq_ediv_of_nonneg (by omega)]; omega
    have t2 : Int.tmod (z : Int) 16 = (zr : Int) := by rw [Int.tmod_eq_emod_of_nonneg (by omega)]; omega
    have t3 : Int.tdiv (X : Int) 16 = (xq : Int) := by rw [Int.tdiv_eq_ediv_of_nonneg (by omega)]; omega
    have t4 : Int.tmod (X : Int) 16 = (xr : Int) := by rw [Int.tmod_eq_emod_of_nonneg (by omega)]; omega
    obtain ⟨j, hj⟩ : ∃ j : Nat, zq * 3 + xq = j := ⟨_, rfl⟩
    obtain ⟨k, hk⟩ : ∃ k : Nat, y * 256 + zr * 16 + xr = k := ⟨_, rfl⟩
    have zqb : zq ≤ 2 := by omega
    have zrb : zr ≤ 15 := by omega
    have xqb : xq ≤ 2 := by omega
    have xrb : xr ≤ 15 := by omega
    have e1 : (zq : Int) * 3 + (xq : Int) = (j : Int) := by omega
    have e2 : (y : Int) * 256 + (zr : Int) * 16 + (xr : Int) = (k : Int) := by omega
    have j9 : (j : Int) < 9 := by omega
    have jb : j < 9 := by omega
    have kb : k < 32768 := by omega
    have kb' : (k : Int) < 32768 := by omega
    have c1 : wr.cell? ⟨e.b, j, none⟩ = some (.slice (some ⟨e.gs j, 0, none⟩) 32768 32768) := HS1.out.row HO.out.1 jb
    have c2 := (HS1.out.blk j jb).cell (k := k) (by rw [HS1.out.sh.len j jb]; exact kb)
    have f2 := (HS1.out.blk j jb).free k
    have HE : Hid (ScX e (boxX F x0 (X + 1) z y v) (wr.setCell ⟨e.gs j, k, none⟩ (.int .u8 v))) := by
      have := HS1.out.set HO.out.1 (x := X) (z := z) (y := y) hlt hz hy v
      rw [boxX_next F z y v hX0, hzq, hzr, hxq, hxr, hj, hk] at this
      exact ⟨_, this⟩
    clear HS1 HO y0 hzq hzr hxq hxr hj hk
    go_wp2
    exact ⟨⟨X + 1, by omega, by omega, by simp, HE⟩, by simp [intOf]; omega⟩
end
end Go.Proofs.YtjeapaojbkicmabDoor
