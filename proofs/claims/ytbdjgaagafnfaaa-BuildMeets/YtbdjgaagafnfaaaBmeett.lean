/-
  The innermost loop of BuildMeets: has any feature put that there?
  BuildMeets: the loop over the cells about one feature.
  BuildMeets: the loop over the features.
-/
import Derived.Test.YtbdjgaagafnfaaaBmeetb
set_option maxRecDepth 20000
namespace Go.Proofs.Ytbdjgaagafnfaaa
section
open C Go.RowKit

/-- The code of a block, by its number. -/
def blkOf (k : Nat) : Code → Option Code
  | .block id c => if id = k then some c else blkOf k c
  | .loop c => blkOf k c
  | .scope c => blkOf k c
  | .seq a b => match blkOf k a with
    | some c => some c
    | none => blkOf k b
  | .cond _ a b => match blkOf k a with
    | some c => some c
    | none => blkOf k b
  | _ => none
def OkT (t : Thing) : Prop := t.s < 3 ∧ (-100000000000 ≤ t.x ∧ t.x ≤ 100000000000) ∧ (-100000000000 ≤ t.z ∧ t.z ≤ 100000000000) ∧ (0 ≤ t.h ∧ t.h ≤ 127) ∧ 4 ≤ t.l ∧ t.l ≤ 7
set_option maxRecDepth 1000000 in
set_option maxHeartbeats 8000000 in
theorem meet_loop (Q : Exit → Act → World → Prop) {c0 c1 c2 c3 c4 c5 c6 c7 c8 c9 c10 c11 c12 c13 c14 c16 c17 c18 c19 c20 c21 c22 c24 c25 c26 c27 c33 c34 c35 c36 c37 c38 c39 c40 c41 c42 c43 c44 c45 c46 c47 c48 c49 c50 c51 c52 c53 c54 c55 c56 c57 c58 c59 c60 c61 c62 c63 c64 c65 c66 c67 c68 c69 c70 c71 c72 c73 c74 c75 c76 c77 c78 c79 c80 c81 c82 c83 c84 c85 c86 c87 c88 c89 c90 c91 c92 c93 c94 c95 c96 c97 c98 c99 c100 c101 c102 c103 c104 c105 c106 c107 c108 c109 c110 c111 c112 c113 c114 c115 c116 c117 c118 c119 c120 c121 c122 c123 c124 c125 c126 c127 c128 c129 c130 c131 c132 c133 c134 c135 c136 c137 c138 c139 c140 c141 c142 c143 c144 c145 c146 c147 c148 c149 c150 c151 c152 c153 c154 c155 c156 c157 c158 c159 c160 c161 c162 c163 c164 c165 c166 c167 c168 c169 c170 c171 c172 c173 c174 c175 c176 c177 c178 c179 c180 c181 c182 c183 c184 c185 c186 c187 c188 c189 c190 c191 c192 c193 c194 c195 c196 c197 c198 c199 c200 c201 c202 c203 c204 c205 c206 c207 c208 c209 c210 c211 c212 c213 c214 c215 c216 c217 c218 c219 c220 c221 c222 c223 c224 c225 c226 c227 c228 c253 c254 v31 v32 v229 v230 v231 v232 v233 v234 v235 v236 v237 v238 v239 v240 v241 v242 v243 v244 v245 v246 v247 v248 v249 v250 v251 v252 : Value} (al : List Thing) (ga ca pb B : Nat) (PX PY PZ got : Int) (w6 W : World) (hlen : al.length ≤ 2700) (hok : ∀ t ∈ al, OkT t) (hO : OwnT w6 B (.slice (some ⟨ga, 0, none⟩) al.length ca) al)
    (bx : -100000000002 ≤ PX ∧ PX ≤ 100000000002) (by' : 0 ≤ PY ∧ PY ≤ 138) (bz : -100000000002 ≤ PZ ∧ PZ ≤ 100000000002) (hW : Below w6.heap.size w6 W) (hD : W.heap[pb]? = some (.cells #[.int .i64 PX, .int .i64 PY, .int .i64 PZ] 52 (0, 0)))
    (hexit : ∀ (β : Bool) (u30 u31 u32 u229 u230 u231 u232 u233 u234 u235 u236 u237 u238 u239 u240 u241 u242 u243 u244 u245 u246 u247 u248 u249 u250 u251 u252 : Value) (W' : World), (∀ (m : Nat) (u : Thing), al[m]? = some u → clm u PX PY PZ 0 = some got → β = true) → Below w6.heap.size w6 W' → Q (.exit 6) ⟨List.toArray (c0 :: c1 :: c2 :: c3 :: c4 :: c5 :: c6 :: c7 :: c8 :: c9 :: c10 :: c11 :: c12 :: c13 :: c14 :: (.slice (some ⟨ga, 0, none⟩) al.length ca) :: c16 :: c17 :: c18 :: c19 :: c20 :: c21 :: c22 :: (.pointer (some ⟨pb, 0, none⟩)) :: c24 :: c25 :: c26 :: c27 :: (.int .i64 got) :: (.bool β) :: u30 :: u31 :: u32 :: c33 :: c34 :: c35 :: c36 :: c37 :: c38 :: c39 :: c40 :: c41 :: c42 :: c43 :: c44 :: c45 :: c46 :: c47 :: c48 :: c49 :: c50 :: c51 :: c52 :: c53 :: c54 :: c55 :: c56 :: c57 :: c58 :: c59 :: c60 :: c61 :: c62 :: c63 :: c64 :: c65 :: c66 :: c67 :: c68 :: c69 :: c70 :: c71 :: c72 :: c73 :: c74 :: c75 :: c76 :: c77 :: c78 :: c79 :: c80 :: c81 :: c82 :: c83 :: c84 :: c85 :: c86 :: c87 :: c88 :: c89 :: c90 :: c91 :: c92 :: c93 :: c94 :: c95 :: c96 :: c97 :: c98 :: c99 :: c100 :: c101 :: c102 :: c103 :: c104 :: c105 :: c106 :: c107 :: c108 :: c109 :: c110 :: c111 :: c112 :: c113 :: c114 :: c115 :: c116 :: c117 :: c118 :: c119 :: c120 :: c121 :: c122 :: c123 :: c124 :: c125 :: c126 :: c127 :: c128 :: c129 :: c130 :: c131 :: c132 :: c133 :: c134 :: c135 :: c136 :: c137 :: c138 :: c139 :: c140 :: c141 :: c142 :: c143 :: c144 :: c145 :: c146 :: c147 :: c148 :: c149 :: c150 :: c151 :: c152 :: c153 :: c154 :: c155 :: c156 :: c157 :: c158 :: c159 :: c160 :: c161 :: c162 :: c163 :: c164 :: c165 :: c166 :: c167 :: c168 :: c169 :: c170 :: c171 :: c172 :: c173 :: c174 :: c175 :: c176 :: c177 :: c178 :: c179 :: c180 :: c181 :: c182 :: c183 :: c184 :: c185 :: c186 :: c187 :: c188 :: c189 :: c190 :: c191 :: c192 :: c193 :: c194 :: c195 :: c196 :: c197 :: c198 :: c199 :: c200 :: c201 :: c202 :: c203 :: c204 :: c205 :: c206 :: c207 :: c208 :: c209 :: c210 :: c211 :: c212 :: c213 :: c214 :: c215 :: c216 :: c217 :: c218 :: c219 :: c220 :: c221 :: c222 :: c223 :: c224 :: c225 :: c226 :: c227 :: c228 :: u229 :: u230 :: u231 :: u232 :: u233 :: u234 :: u235 :: u236 :: u237 :: u238 :: u239 :: u240 :: u241 :: u242 :: u243 :: u244 :: u245 :: u246 :: u247 :: u248 :: u249 :: u250 :: u251 :: u252 :: c253 :: c254 :: []), []⟩ W') :
    Code.wp Try.prog ((Try.f5.body.bind (blkOf 6)).getD .skip) Q ⟨List.toArray (c0 :: c1 :: c2 :: c3 :: c4 :: c5 :: c6 :: c7 :: c8 :: c9 :: c10 :: c11 :: c12 :: c13 :: c14 :: (.slice (some ⟨ga, 0, none⟩) al.length ca) :: c16 :: c17 :: c18 :: c19 :: c20 :: c21 :: c22 :: (.pointer (some ⟨pb, 0, none⟩)) :: c24 :: c25 :: c26 :: c27 :: (.int .i64 got) :: (.bool false) :: (.int .i64 0) :: v31 :: v32 :: c33 :: c34 :: c35 :: c36 :: c37 :: c38 :: c39 :: c40 :: c41 :: c42 :: c43 :: c44 :: c45 :: c46 :: c47 :: c48 :: c49 :: c50 :: c51 :: c52 :: c53 :: c54 :: c55 :: c56 :: c57 :: c58 :: c59 :: c60 :: c61 :: c62 :: c63 :: c64 :: c65 :: c66 :: c67 :: c68 :: c69 :: c70 :: c71 :: c72 :: c73 :: c74 :: c75 :: c76 :: c77 :: c78 :: c79 :: c80 :: c81 :: c82 :: c83 :: c84 :: c85 :: c86 :: c87 :: c88 :: c89 :: c90 :: c91 :: c92 :: c93 :: c94 :: c95 :: c96 :: c97 :: c98 :: c99 :: c100 :: c101 :: c102 :: c103 :: c104 :: c105 :: c106 :: c107 :: c108 :: c109 :: c110 :: c111 :: c112 :: c113 :: c114 :: c115 :: c116 :: c117 :: c118 :: c119 :: c120 :: c121 :: c122 :: c123 :: c124 :: c125 :: c126 :: c127 :: c128 :: c129 :: c130 :: c131 :: c132 :: c133 :: c134 :: c135 :: c136 :: c137 :: c138 :: c139 :: c140 :: c141 :: c142 :: c143 :: c144 :: c145 :: c146 :: c147 :: c148 :: c149 :: c150 :: c151 :: c152 :: c153 :: c154 :: c155 :: c156 :: c157 :: c158 :: c159 :: c160 :: c161 :: c162 :: c163 :: c164 :: c165 :: c166 :: c167 :: c168 :: c169 :: c170 :: c171 :: c172 :: c173 :: c174 :: c175 :: c176 :: c177 :: c178 :: c179 :: c180 :: c181 :: c182 :: c183 :: c184 :: c185 :: c186 :: c187 :: c188 :: c189 :: c190 :: c191 :: c192 :: c193 :: c194 :: c195 :: c196 :: c197 :: c198 :: c199 :: c200 :: c201 :: c202 :: c203 :: c204 :: c205 :: c206 :: c207 :: c208 :: c209 :: c210 :: c211 :: c212 :: c213 :: c214 :: c215 :: c216 :: c217 :: c218 :: c219 :: c220 :: c221 :: c222 :: c223 :: c224 :: c225 :: c226 :: c227 :: c228 :: v229 :: v230 :: v231 :: v232 :: v233 :: v234 :: v235 :: v236 :: v237 :: v238 :: v239 :: v240 :: v241 :: v242 :: v243 :: v244 :: v245 :: v246 :: v247 :: v248 :: v249 :: v250 :: v251 :: v252 :: c253 :: c254 :: []), []⟩ W := by
  have HO : Hid (OwnT w6 B (.slice (some ⟨ga, 0, none⟩) al.length ca) al) := hO
  have Hok : Hid (∀ t ∈ al, OkT t) := hok
  have HW9 : Hid (Below w6.heap.size w6 W) := hW
  have HD9 : Hid (W.heap[pb]? = some (.cells #[.int .i64 PX, .int .i64 PY, .int .i64 PZ] 52 (0, 0))) := hD
  have HX : Hid (∀ (β : Bool) (u30 u31 u32 u229 u230 u231 u232 u233 u234 u235 u236 u237 u238 u239 u240 u241 u242 u243 u244 u245 u246 u247 u248 u249 u250 u251 u252 : Value) (W' : World), (∀ (m : Nat) (u : Thing), al[m]? = some u → clm u PX PY PZ 0 = some got → β = true) → Below w6.heap.size w6 W' → Q (.exit 6) ⟨List.toArray (c0 :: c1 :: c2 :: c3 :: c4 :: c5 :: c6 :: c7 :: c8 :: c9 :: c10 :: c11 :: c12 :: c13 :: c14 :: (.slice (some ⟨ga, 0, none⟩) al.length ca) :: c16 :: c17 :: c18 :: c19 :: c20 :: c21 :: c22 :: (.pointer (some ⟨pb, 0, none⟩)) :: c24 :: c25 :: c26 :: c27 :: (.int .i64 got) :: (.bool β) :: u30 :: u31 :: u32 :: c33 :: c34 :: c35 :: c36 :: c37 :: c38 :: c39 :: c40 :: c41 :: c42 :: c43 :: c44 :: c45 :: c46 :: c47 :: c48 :: c49 :: c50 :: c51 :: c52 :: c53 :: c54 :: c55 :: c56 :: c57 :: c58 :: c59 :: c60 :: c61 :: c62 :: c63 :: c64 :: c65 :: c66 :: c67 :: c68 :: c69 :: c70 :: c71 :: c72 :: c73 :: c74 :: c75 :: c76 :: c77 :: c78 :: c79 :: c80 :: c81 :: c82 :: c83 :: c84 :: c85 :: c86 :: c87 :: c88 :: c89 :: c90 :: c91 :: c92 :: c93 :: c94 :: c95 :: c96 :: c97 :: c98 :: c99 :: c100 :: c101 :: c102 :: c103 :: c104 :: c105 :: c106 :: c107 :: c108 :: c109 :: c110 :: c111 :: c112 :: c113 :: c114 :: c115 :: c116 :: c117 :: c118 :: c119 :: c120 :: c121 :: c122 :: c123 :: c124 :: c125 :: c126 :: c127 :: c128 :: c129 :: c130 :: c131 :: c132 :: c133 :: c134 :: c135 :: c136 :: c137 :: c138 :: c139 :: c140 :: c141 :: c142 :: c143 :: c144 :: c145 :: c146 :: c147 :: c148 :: c149 :: c150 :: c151 :: c152 :: c153 :: c154 :: c155 :: c156 :: c157 :: c158 :: c159 :: c160 :: c161 :: c162 :: c163 :: c164 :: c165 :: c166 :: c167 :: c168 :: c169 :: c170 :: c171 :: c172 :: c173 :: c174 :: c175 :: c176 :: c177 :: c178 :: c179 :: c180 :: c181 :: c182 :: c183 :: c184 :: c185 :: c186 :: c187 :: c188 :: c189 :: c190 :: c191 :: c192 :: c193 :: c194 :: c195 :: c196 :: c197 :: c198 :: c199 :: c200 :: c201 :: c202 :: c203 :: c204 :: c205 :: c206 :: c207 :: c208 :: c209 :: c210 :: c211 :: c212 :: c213 :: c214 :: c215 :: c216 :: c217 :: c218 :: c219 :: c220 :: c221 :: c222 :: c223 :: c224 :: c225 :: c226 :: c227 :: c228 :: u229 :: u230 :: u231 :: u232 :: u233 :: u234 :: u235 :: u236 :: u237 :: u238 :: u239 :: u240 :: u241 :: u242 :: u243 :: u244 :: u245 :: u246 :: u247 :: u248 :: u249 :: u250 :: u251 :: u252 :: c253 :: c254 :: []), []⟩ W') := hexit
  clear hO hok hW hD hexit
  conv => arg 2; whnf
  go_loopw [29, 30] (fun vo vm wr => ∃ (M : Nat) (β : Bool), M ≤ al.length ∧ vm = .int .i64 (M : Int) ∧ vo = .bool β ∧ Hid (∀ (m : Nat) (u : Thing), m < M → al[m]? = some u → clm u PX PY PZ 0 = some got → β = true) ∧ Hid (Below w6.heap.size w6 wr) ∧ Hid (wr.heap[pb]? = some (.cells #[.int .i64 PX, .int .i64 PY, .int .i64 PZ] 52 (0, 0)))) (fun _ vm _ => al.length - (intOf vm).toNat)
  case atStart => exact ⟨0, false, by omega, rfl, rfl, (fun m u h => absurd h (Nat.not_lt_zero _)), HW9, HD9⟩
  case round =>
    clear HW9 HD9
    obtain ⟨M, β, hM, rfl, rfl, HT, HW, HD⟩ := hrel
    by_cases hml : M < al.length
    case neg =>
      have hge2 : ¬ (M : Int) < (al.length : Int) := by omega
      have HT2 : Hid (∀ (m : Nat) (u : Thing), al[m]? = some u → clm u PX PY PZ 0 = some got → β = true) := fun m u hm hu => HT.out m u (by have := (List.getElem?_eq_some_iff.1 hm).1; omega) hm hu
      clear HO Hok HT HD
      go_wp2
      exact HX.out _ _ _ _ _ _ _ _ _ _ _ _ _ _ _ _ _ _ _ _ _ _ _ _ _ _ _ _ _ HT2.out HW.out
    have hml' : (M : Int) < (al.length : Int) := by omega
    obtain ⟨u, hu⟩ : ∃ u, al[M]? = some u := ⟨al[M], List.getElem?_eq_getElem hml⟩
    have Hu : Hid (al[M]? = some u) := hu
    have hok := Hok.out u (List.mem_of_getElem? hu)
    have hcl := fun w' => rclaim_c u PX PY PZ 0 w' hok.1 (by omega) (by omega) (by omega) (by have := hok.2.1; omega) (by have := hok.2.2.1; omega) (by have := hok.2.2.2.1; omega) hok.2.2.2.2
    have hte : ∀ o, told o = .returned (.tuple #[.int .i64 (o.getD 0), .bool o.isSome]) := fun _ => rfl
    simp only [hte] at hcl
    obtain ⟨o, ho⟩ : ∃ o, clm u PX PY PZ 0 = o := ⟨_, rfl⟩
    have Hou : Hid (clm u PX PY PZ 0 = o) := ho
    rw [ho] at hcl
    have Hcl : Hid (∀ w', Calls Try.prog 18 #[thingV u, .agg #[.int .i64 PX, .int .i64 PY, .int .i64 PZ], .int .i64 0] w' fun e w'' => e = .returned (.tuple #[.int .i64 (o.getD 0), .bool o.isSome]) ∧ Below w'.heap.size w' w'') := hcl
    clear hcl hte ho hok hu
    unfold thingV at Hcl
    obtain ⟨_, _, e0, _, hcells⟩ := (HO.out.on HW.out).cell (by omega)
    cases e0
    have t0 := (hcells M u Hu.out 0 (by omega)).trans (show (rowV u)[0]? = some (.int .i64 (u.s : Int)) from rfl)
    have t1 := (hcells M u Hu.out 1 (by omega)).trans (show (rowV u)[1]? = some (.int .i64 u.x) from rfl)
    have t2 := (hcells M u Hu.out 2 (by omega)).trans (show (rowV u)[2]? = some (.int .i64 u.z) from rfl)
    have t3 := (hcells M u Hu.out 3 (by omega)).trans (show (rowV u)[3]? = some (.int .i64 u.h) from rfl)
    have t4 := (hcells M u Hu.out 4 (by omega)).trans (show (rowV u)[4]? = some (.int .i64 u.l) from rfl)
    rw [Nat.add_zero] at t0
    clear hcells
    have p0 : wr.cell? ⟨pb, 0, none⟩ = some (.int .i64 PX) := (cell_of_row wr pb 0 _ 52 (0, 0) HD.out).trans rfl
    have p1 : wr.cell? ⟨pb, 1, none⟩ = some (.int .i64 PY) := (cell_of_row wr pb 1 _ 52 (0, 0) HD.out).trans rfl
    have p2 : wr.cell? ⟨pb, 2, none⟩ = some (.int .i64 PZ) := (cell_of_row wr pb 2 _ 52 (0, 0) HD.out).trans rfl
    go_wp2_with fail
    have hsome := since_some wr
    have s0 := fun s : Since wr => Since.cell t0 s
    have s1 := fun s : Since wr => Since.cell t1 s
    have s2 := fun s : Since wr => Since.cell t2 s
    have s3 := fun s : Since wr => Since.cell t3 s
    have s4 := fun s : Since wr => Since.cell t4 s
    have a0 := fun s : Since wr => Since.cell p0 s
    have a1 := fun s : Since wr => Since.cell p1 s
    have a2 := fun s : Since wr => Since.cell p2 s
    refine wp_region_since (by kernel_rfl) (by kernel_rfl) ?_
    repeat (go_big_quiet_step (first | (go_at_call 18; exact Calls.since (Hcl.out _))))
    refine wpQuiet_nil ?_
    rintro _ ⟨s, rfl⟩
    have HW10 : Hid (Below w6.heap.size w6 s.w) := HW.out.trans (s.bel.mono HW.out.size)
    have HD10 : Hid (s.w.heap[pb]? = some (.cells #[.int .i64 PX, .int .i64 PY, .int .i64 PZ] 52 (0, 0))) := (s.bel.block _ (Array.getElem?_eq_some_iff.1 HD.out).1).trans HD.out
    generalize s.w = W10 at *
    have Hnx : Hid (∀ β' : Bool, (β = true → β' = true) → (o = some got → β' = true) → ∀ (m : Nat) (v : Thing), m < M + 1 → al[m]? = some v → clm v PX PY PZ 0 = some got → β' = true) := fun β' h1 h2 m v hm hv hc => by
      by_cases e : m = M
      · subst e
        rw [Hu.out] at hv
        cases hv
        exact h2 (Hou.out.symm.trans hc)
      · exact h1 (HT.out m v (by omega) hv hc)
    clear hsome s0 s1 s2 s3 s4 a0 a1 a2 t0 t1 t2 t3 t4 p0 p1 p2 HW HD HT Hcl Hu Hou HO Hok HX
    rcases β with _ | _
    · rcases o with _ | x
      · have HT2 : Hid (∀ (m : Nat) (v : Thing), m < M + 1 → al[m]? = some v → clm v PX PY PZ 0 = some got → false = true) := Hnx.out false (fun h => h) (fun h => by cases h)
        clear Hnx
        go_wp2
        exact ⟨⟨M + 1, false, by omega, by simp, by first | rfl | simp, HT2, HW10, HD10⟩, by simp [intOf]; omega⟩
      · by_cases ex : x = got
        · have HT2 : Hid (∀ (m : Nat) (v : Thing), m < M + 1 → al[m]? = some v → clm v PX PY PZ 0 = some got → true = true) := Hnx.out true (fun _ => rfl) (fun _ => rfl)
          clear Hnx
          go_wp2
          exact ⟨⟨M + 1, true, by omega, by simp, by first | rfl | simp [ex], HT2, HW10, HD10⟩, by simp [intOf]; omega⟩
        · have HT2 : Hid (∀ (m : Nat) (v : Thing), m < M + 1 → al[m]? = some v → clm v PX PY PZ 0 = some got → false = true) := Hnx.out false (fun h => h) (fun h => by injection h with h; exact absurd h ex)
          clear Hnx
          go_wp2
          exact ⟨⟨M + 1, false, by omega, by simp, by first | rfl | simp [ex], HT2, HW10, HD10⟩, by simp [intOf]; omega⟩
    · have HT2 : Hid (∀ (m : Nat) (v : Thing), m < M + 1 → al[m]? = some v → clm v PX PY PZ 0 = some got → true = true) := Hnx.out true (fun _ => rfl) (fun _ => rfl)
      clear Hnx
      go_wp2
      exact ⟨⟨M + 1, true, by omega, by simp, by first | rfl | simp, HT2, HW10, HD10⟩, by simp [intOf]; omega⟩
end
section
open C Go.RowKit

set_option maxRecDepth 1000000 in
set_option maxHeartbeats 8000000 in
theorem meet_cells (Q : Exit → Act → World → Prop) {c0 c1 c2 c3 c4 c6 c7 c9 c10 c11 c12 c13 c16 c17 c18 c19 c33 c34 c35 c36 c37 c38 c39 c40 c41 c42 c43 c44 c45 c46 c47 c48 c49 c50 c51 c52 c53 c54 c55 c56 c57 c58 c59 c60 c61 c62 c63 c64 c65 c66 c67 c68 c69 c70 c71 c72 c73 c74 c75 c76 c77 c78 c79 c80 c81 c82 c83 c84 c85 c86 c87 c88 c89 c90 c91 c92 c93 c94 c95 c96 c97 c98 c99 c100 c101 c102 c103 c104 c105 c106 c107 c108 c109 c110 c111 c112 c113 c114 c115 c116 c117 c118 c119 c120 c121 c122 c123 c124 c125 v8 v23 v24 v25 v26 v27 v28 v29 v30 v31 v32 v126 v127 v128 v129 v130 v131 v132 v133 v134 v135 v136 v137 v138 v139 v140 v141 v142 v143 v144 v145 v146 v147 v148 v149 v150 v151 v152 v153 v154 v155 v156 v157 v158 v159 v160 v161 v162 v163 v164 v165 v166 v167 v168 v169 v170 v171 v172 v173 v174 v175 v176 v177 v178 v179 v180 v181 v182 v183 v184 v185 v186 v187 v188 v189 v190 v191 v192 v193 v194 v195 v196 v197 v198 v199 v200 v201 v202 v203 v204 v205 v206 v207 v208 v209 v210 v211 v212 v213 v214 v215 v216 v217 v218 v219 v220 v221 v222 v223 v224 v225 v226 v227 v228 v229 v230 v231 v232 v233 v234 v235 v236 v237 v238 v239 v240 v241 v242 v243 v244 v245 v246 v247 v248 v249 v250 v251 v252 v253 v254 : Value} (w w5 w6 W : World) (cx cz : Int) (hf : Far 1073741824 cx ∧ Far 1073741824 cz) (l al : List Thing) (f : Nat → List Int) (gs : List Nat) (b cv g0 tc lb n ac : Nat) (aa : Option Addr) (t : Thing)
    (HB6 : Hid (Bx w cx cz w6)) (HM6 : Hid (MeetI w5 f 9 (some ⟨b, 0, none⟩) cv gs (.slice aa al.length ac) al w6)) (HO6 : Hid (OwnT w6 lb (.slice (some ⟨g0, 0, none⟩) l.length tc) l)) (Ht : Hid (l[n]? = some t)) (Hokt : Hid (OkT t)) (Hoka : Hid (∀ t ∈ al, OkT t)) (Hfk : Hid (∀ i, (f i).length = 32768 ∧ Kinds (f i)))
    (Hmt : Hid (∀ (D K : Nat) (want : Int), D < 9 → K < 32768 → clm t (dX cx D * 16 + (K : Int) % 16) ((K : Int) / 256) (dZ cz D * 16 + (K : Int) / 16 % 16) 0 = some want → ∃ u ∈ al, clm u (dX cx D * 16 + (K : Int) % 16) ((K : Int) / 256) (dZ cz D * 16 + (K : Int) / 16 % 16) 0 = some ((f D).getD K 0))) (hal : al.length ≤ 2700) (HW0 : Hid (Below w6.heap.size w6 W))
    (HPan : Hid (∀ (c : List PanicEntry) (a : Act) (d : Option Tmp) (v : Value) (w' : World), Q (.panic c) (a.put d v) w' → Q (.panic c) a w')) (HX : Hid (∀ (u8 u22 u23 u24 u25 u26 u27 u28 u29 u30 u31 u32 u126 u127 u128 u129 u130 u131 u132 u133 u134 u135 u136 u137 u138 u139 u140 u141 u142 u143 u144 u145 u146 u147 u148 u149 u150 u151 u152 u153 u154 u155 u156 u157 u158 u159 u160 u161 u162 u163 u164 u165 u166 u167 u168 u169 u170 u171 u172 u173 u174 u175 u176 u177 u178 u179 u180 u181 u182 u183 u184 u185 u186 u187 u188 u189 u190 u191 u192 u193 u194 u195 u196 u197 u198 u199 u200 u201 u202 u203 u204 u205 u206 u207 u208 u209 u210 u211 u212 u213 u214 u215 u216 u217 u218 u219 u220 u221 u222 u223 u224 u225 u226 u227 u228 u229 u230 u231 u232 u233 u234 u235 u236 u237 u238 u239 u240 u241 u242 u243 u244 u245 u246 u247 u248 u249 u250 u251 u252 u253 u254 : Value) (W' : World), Below w6.heap.size w6 W' → Q (.exit 4) ⟨List.toArray (c0 :: c1 :: c2 :: c3 :: c4 :: (.pointer (some ⟨w.heap.size, 0, none⟩)) :: c6 :: c7 :: u8 :: c9 :: c10 :: c11 :: c12 :: c13 :: (.slice (some ⟨b, 0, none⟩) 9 cv) :: (.slice aa al.length ac) :: c16 :: c17 :: c18 :: c19 :: (.slice (some ⟨g0, 0, none⟩) l.length tc) :: (.int .i64 (n : Int)) :: u22 :: u23 :: u24 :: u25 :: u26 :: u27 :: u28 :: u29 :: u30 :: u31 :: u32 :: c33 :: c34 :: c35 :: c36 :: c37 :: c38 :: c39 :: c40 :: c41 :: c42 :: c43 :: c44 :: c45 :: c46 :: c47 :: c48 :: c49 :: c50 :: c51 :: c52 :: c53 :: c54 :: c55 :: c56 :: c57 :: c58 :: c59 :: c60 :: c61 :: c62 :: c63 :: c64 :: c65 :: c66 :: c67 :: c68 :: c69 :: c70 :: c71 :: c72 :: c73 :: c74 :: c75 :: c76 :: c77 :: c78 :: c79 :: c80 :: c81 :: c82 :: c83 :: c84 :: c85 :: c86 :: c87 :: c88 :: c89 :: c90 :: c91 :: c92 :: c93 :: c94 :: c95 :: c96 :: c97 :: c98 :: c99 :: c100 :: c101 :: c102 :: c103 :: c104 :: c105 :: c106 :: c107 :: c108 :: c109 :: c110 :: c111 :: c112 :: c113 :: c114 :: c115 :: c116 :: c117 :: c118 :: c119 :: c120 :: c121 :: c122 :: c123 :: c124 :: c125 :: u126 :: u127 :: u128 :: u129 :: u130 :: u131 :: u132 :: u133 :: u134 :: u135 :: u136 :: u137 :: u138 :: u139 :: u140 :: u141 :: u142 :: u143 :: u144 :: u145 :: u146 :: u147 :: u148 :: u149 :: u150 :: u151 :: u152 :: u153 :: u154 :: u155 :: u156 :: u157 :: u158 :: u159 :: u160 :: u161 :: u162 :: u163 :: u164 :: u165 :: u166 :: u167 :: u168 :: u169 :: u170 :: u171 :: u172 :: u173 :: u174 :: u175 :: u176 :: u177 :: u178 :: u179 :: u180 :: u181 :: u182 :: u183 :: u184 :: u185 :: u186 :: u187 :: u188 :: u189 :: u190 :: u191 :: u192 :: u193 :: u194 :: u195 :: u196 :: u197 :: u198 :: u199 :: u200 :: u201 :: u202 :: u203 :: u204 :: u205 :: u206 :: u207 :: u208 :: u209 :: u210 :: u211 :: u212 :: u213 :: u214 :: u215 :: u216 :: u217 :: u218 :: u219 :: u220 :: u221 :: u222 :: u223 :: u224 :: u225 :: u226 :: u227 :: u228 :: u229 :: u230 :: u231 :: u232 :: u233 :: u234 :: u235 :: u236 :: u237 :: u238 :: u239 :: u240 :: u241 :: u242 :: u243 :: u244 :: u245 :: u246 :: u247 :: u248 :: u249 :: u250 :: u251 :: u252 :: u253 :: u254 :: []), []⟩ W')) :
    Code.wp Try.prog ((Try.f5.body.bind (blkOf 4)).getD .skip) Q ⟨List.toArray (c0 :: c1 :: c2 :: c3 :: c4 :: (.pointer (some ⟨w.heap.size, 0, none⟩)) :: c6 :: c7 :: v8 :: c9 :: c10 :: c11 :: c12 :: c13 :: (.slice (some ⟨b, 0, none⟩) 9 cv) :: (.slice aa al.length ac) :: c16 :: c17 :: c18 :: c19 :: (.slice (some ⟨g0, 0, none⟩) l.length tc) :: (.int .i64 (n : Int)) :: (.int .i64 0) :: v23 :: v24 :: v25 :: v26 :: v27 :: v28 :: v29 :: v30 :: v31 :: v32 :: c33 :: c34 :: c35 :: c36 :: c37 :: c38 :: c39 :: c40 :: c41 :: c42 :: c43 :: c44 :: c45 :: c46 :: c47 :: c48 :: c49 :: c50 :: c51 :: c52 :: c53 :: c54 :: c55 :: c56 :: c57 :: c58 :: c59 :: c60 :: c61 :: c62 :: c63 :: c64 :: c65 :: c66 :: c67 :: c68 :: c69 :: c70 :: c71 :: c72 :: c73 :: c74 :: c75 :: c76 :: c77 :: c78 :: c79 :: c80 :: c81 :: c82 :: c83 :: c84 :: c85 :: c86 :: c87 :: c88 :: c89 :: c90 :: c91 :: c92 :: c93 :: c94 :: c95 :: c96 :: c97 :: c98 :: c99 :: c100 :: c101 :: c102 :: c103 :: c104 :: c105 :: c106 :: c107 :: c108 :: c109 :: c110 :: c111 :: c112 :: c113 :: c114 :: c115 :: c116 :: c117 :: c118 :: c119 :: c120 :: c121 :: c122 :: c123 :: c124 :: c125 :: v126 :: v127 :: v128 :: v129 :: v130 :: v131 :: v132 :: v133 :: v134 :: v135 :: v136 :: v137 :: v138 :: v139 :: v140 :: v141 :: v142 :: v143 :: v144 :: v145 :: v146 :: v147 :: v148 :: v149 :: v150 :: v151 :: v152 :: v153 :: v154 :: v155 :: v156 :: v157 :: v158 :: v159 :: v160 :: v161 :: v162 :: v163 :: v164 :: v165 :: v166 :: v167 :: v168 :: v169 :: v170 :: v171 :: v172 :: v173 :: v174 :: v175 :: v176 :: v177 :: v178 :: v179 :: v180 :: v181 :: v182 :: v183 :: v184 :: v185 :: v186 :: v187 :: v188 :: v189 :: v190 :: v191 :: v192 :: v193 :: v194 :: v195 :: v196 :: v197 :: v198 :: v199 :: v200 :: v201 :: v202 :: v203 :: v204 :: v205 :: v206 :: v207 :: v208 :: v209 :: v210 :: v211 :: v212 :: v213 :: v214 :: v215 :: v216 :: v217 :: v218 :: v219 :: v220 :: v221 :: v222 :: v223 :: v224 :: v225 :: v226 :: v227 :: v228 :: v229 :: v230 :: v231 :: v232 :: v233 :: v234 :: v235 :: v236 :: v237 :: v238 :: v239 :: v240 :: v241 :: v242 :: v243 :: v244 :: v245 :: v246 :: v247 :: v248 :: v249 :: v250 :: v251 :: v252 :: v253 :: v254 :: []), []⟩ W := by
  have hnl : n < l.length := (List.getElem?_eq_some_iff.1 Ht.out).1
  have hn' : (n : Int) < (l.length : Int) := by omega
  conv => arg 2; whnf
  go_loopw [22] (fun vk wr => ∃ N : Nat, N ≤ 300 ∧ vk = .int .i64 (N : Int) ∧ Hid (Below w6.heap.size w6 wr)) (fun vk _ => 300 - (intOf vk).toNat)
  case atStart => exact ⟨0, by omega, rfl, HW0⟩
  case round =>
    clear HW0
    obtain ⟨N, hN, rfl, HW⟩ := hrel
    by_cases hlt : N < 300
    case neg =>
      have hge2 : ¬ (N : Int) < 300 := by omega
      clear HM6 HO6 Hoka Hfk Hmt HB6
      go_wp2
      exact HX.out _ _ _ _ _ _ _ _ _ _ _ _ _ _ _ _ _ _ _ _ _ _ _ _ _ _ _ _ _ _ _ _ _ _ _ _ _ _ _ _ _ _ _ _ _ _ _ _ _ _ _ _ _ _ _ _ _ _ _ _ _ _ _ _ _ _ _ _ _ _ _ _ _ _ _ _ _ _ _ _ _ _ _ _ _ _ _ _ _ _ _ _ _ _ _ _ _ _ _ _ _ _ _ _ _ _ _ _ _ _ _ _ _ _ _ _ _ _ _ _ _ _ _ _ _ _ _ _ _ _ _ _ _ _ _ _ _ _ _ _ _ _ HW.out
    have hlt' : (N : Int) < 300 := by omega
    obtain ⟨_, _, e0, _, hcells⟩ := (HO6.out.on HW.out).cell (by omega)
    cases e0
    have hx1 := (hcells n t Ht.out 1 (by omega)).trans (show (rowV t)[1]? = some (.int .i64 t.x) from rfl)
    have hz1 := (hcells n t Ht.out 2 (by omega)).trans (show (rowV t)[2]? = some (.int .i64 t.z) from rfl)
    have hh1 := (hcells n t Ht.out 3 (by omega)).trans (show (rowV t)[3]? = some (.int .i64 t.h) from rfl)
    clear hcells
    obtain ⟨tx0, tx1⟩ := Hokt.out.2.1
    obtain ⟨tz0, tz1⟩ := Hokt.out.2.2.1
    obtain ⟨th0, th1⟩ := Hokt.out.2.2.2.1
    obtain ⟨A5, hA5⟩ : ∃ A, N % 5 = A := ⟨_, rfl⟩
    obtain ⟨B25, hB25⟩ : ∃ A, N / 25 = A := ⟨_, rfl⟩
    obtain ⟨C5, hC5⟩ : ∃ A, N / 5 = A := ⟨_, rfl⟩
    obtain ⟨D5, hD5⟩ : ∃ A, C5 % 5 = A := ⟨_, rfl⟩
    have r1 : Int.tmod (N : Int) 5 = (A5 : Int) := by rw [Int.tmod_eq_emod_of_nonneg (by omega)]; omega
    have r2 : Int.tdiv (N : Int) 25 = (B25 : Int) := by rw [Int.tdiv_eq_ediv_of_nonneg (by omega)]; omega
    have r3 : Int.tdiv (N : Int) 5 = (C5 : Int) := by rw [Int.tdiv_eq_ediv_of_nonneg (by omega)]; omega
    have r4 : Int.tmod (C5 : Int) 5 = (D5 : Int) := by rw [Int.tmod_eq_emod_of_nonneg (by omega)]; omega
    have bA : A5 < 5 := by omega
    have bB : B25 < 12 := by omega
    have bC : C5 < 60 := by omega
    have bD : D5 < 5 := by omega
    obtain ⟨PX, hPX⟩ : ∃ p : Int, t.x + (A5 : Int) - 2 = p := ⟨_, rfl⟩
    obtain ⟨PY, hPY⟩ : ∃ p : Int, t.h + (B25 : Int) = p := ⟨_, rfl⟩
    obtain ⟨PZ, hPZ⟩ : ∃ p : Int, t.z + (D5 : Int) - 2 = p := ⟨_, rfl⟩
    have w2' : IntKind.i64.wrap (B25 : Int) = (B25 : Int) := by rw [IntKind.wrap_i64]; omega
    have w3' : IntKind.i64.wrap (C5 : Int) = (C5 : Int) := by rw [IntKind.wrap_i64]; omega
    have u1 : IntKind.i64.wrap (t.x + (A5 : Int)) = t.x + (A5 : Int) := by rw [IntKind.wrap_i64]; omega
    have u2 : IntKind.i64.wrap (t.x + (A5 : Int) - 2) = PX := by rw [IntKind.wrap_i64]; omega
    have u3 : IntKind.i64.wrap (t.h + (B25 : Int)) = PY := by rw [IntKind.wrap_i64]; omega
    have u4 : IntKind.i64.wrap (t.z + (D5 : Int)) = t.z + (D5 : Int) := by rw [IntKind.wrap_i64]; omega
    have u5 : IntKind.i64.wrap (t.z + (D5 : Int) - 2) = PZ := by rw [IntKind.wrap_i64]; omega
    have bpx : -100000000002 ≤ PX ∧ PX ≤ 100000000002 := by omega
    have bpy : 0 ≤ PY ∧ PY ≤ 138 := by omega
    have bpz : -100000000002 ≤ PZ ∧ PZ ≤ 100000000002 := by omega
    clear hA5 hB25 hC5 hD5 hPX hPY hPZ
    obtain ⟨tx, htx⟩ : ∃ v, t.x = v := ⟨_, rfl⟩
    obtain ⟨tz, htz⟩ : ∃ v, t.z = v := ⟨_, rfl⟩
    obtain ⟨th, hth⟩ : ∃ v, t.h = v := ⟨_, rfl⟩
    rw [htx] at hx1 u1 u2
    rw [htz] at hz1 u4 u5
    rw [hth] at hh1 u3
    clear htx htz hth
    go_wp2_with fail
    refine region_L (fun w' => Below wr.heap.size wr w') 30 (by kernel_rfl) ?_
    have hHeld : Below wr.heap.size wr wr.drew := (Below.refl _ _).drew
    have hne : Nonempty (Sub (fun w' => Below wr.heap.size wr w')) := ⟨⟨_, hHeld⟩⟩
    have y1 : ∀ s : Sub (fun w' => Below wr.heap.size wr w'), s.w.cell? ⟨g0, n * 5 + 1, none⟩ = some (.int .i64 tx) := fun s => cell_below hx1 s.ok
    have y2 : ∀ s : Sub (fun w' => Below wr.heap.size wr w'), s.w.cell? ⟨g0, n * 5 + 2, none⟩ = some (.int .i64 tz) := fun s => cell_below hz1 s.ok
    have y3 : ∀ s : Sub (fun w' => Below wr.heap.size wr w'), s.w.cell? ⟨g0, n * 5 + 3, none⟩ = some (.int .i64 th) := fun s => cell_below hh1 s.ok
    have hnl : (n : Int) < (l.length : Int) := by omega
    clear hx1 hz1 hh1
    generalize wr.drew = va at *
    refine take_L (i := 0) rfl (by kernel_rfl) (by kernel_rfl) (by kernel_rfl) (by kernel_rfl) (fun _ _ _ _ h => HPan.out _ _ _ _ _ h) (by exact hHeld) (fun K hK => ?_)
    go_simp
    refine hK _ ?_
    clear hK K
    refine take_L (i := 1) rfl (by kernel_rfl) (by kernel_rfl) (by kernel_rfl) (by kernel_rfl) (fun _ _ _ _ h => HPan.out _ _ _ _ _ h) (by exact hHeld) (fun K hK => ?_)
    go_simp
    refine hK _ ?_
    clear hK K
    refine take_L (i := 2) rfl (by kernel_rfl) (by kernel_rfl) (by kernel_rfl) (by kernel_rfl) (fun _ _ _ _ h => HPan.out _ _ _ _ _ h) (by exact hHeld) (fun K hK => ?_)
    go_simp
    refine hK _ ?_
    clear hK K
    refine take_L (i := 3) rfl (by kernel_rfl) (by kernel_rfl) (by kernel_rfl) (by kernel_rfl) (fun _ _ _ _ h => HPan.out _ _ _ _ _ h) (by exact hHeld) (fun K hK => ?_)
    go_simp
    refine hK _ ?_
    clear hK K
    refine take_L (i := 4) rfl (by kernel_rfl) (by kernel_rfl) (by kernel_rfl) (by kernel_rfl) (fun _ _ _ _ h => HPan.out _ _ _ _ _ h) (by exact hHeld) (fun K hK => ?_)
    go_simp
    refine hK _ ?_
    clear hK K
    refine take_L (i := 5) rfl (by kernel_rfl) (by kernel_rfl) (by kernel_rfl) (by kernel_rfl) (fun _ _ _ _ h => HPan.out _ _ _ _ _ h) (by exact hHeld) (fun K hK => ?_)
    go_simp
    refine hK _ ?_
    clear hK K
    refine take_L (i := 6) rfl (by kernel_rfl) (by kernel_rfl) (by kernel_rfl) (by kernel_rfl) (fun _ _ _ _ h => HPan.out _ _ _ _ _ h) (by exact hHeld) (fun K hK => ?_)
    go_simp
    refine hK _ ?_
    clear hK K
    refine take_L (i := 7) rfl (by kernel_rfl) (by kernel_rfl) (by kernel_rfl) (by kernel_rfl) (fun _ _ _ _ h => HPan.out _ _ _ _ _ h) (by exact hHeld) (fun K hK => ?_)
    go_simp
    refine hK _ ?_
    clear hK K
    refine take_L (i := 8) rfl (by kernel_rfl) (by kernel_rfl) (by kernel_rfl) (by kernel_rfl) (fun _ _ _ _ h => HPan.out _ _ _ _ _ h) (by exact hHeld) (fun K hK => ?_)
    go_simp
    refine hK _ ?_
    clear hK K
    refine take_L (i := 9) rfl (by kernel_rfl) (by kernel_rfl) (by kernel_rfl) (by kernel_rfl) (fun _ _ _ _ h => HPan.out _ _ _ _ _ h) (by exact hHeld) (fun K hK => ?_)
    go_simp
    refine hK _ ?_
    clear hK K
    refine take_L (i := 10) rfl (by kernel_rfl) (by kernel_rfl) (by kernel_rfl) (by kernel_rfl) (fun _ _ _ _ h => HPan.out _ _ _ _ _ h) (by exact hHeld) (fun K hK => ?_)
    go_simp
    refine hK _ ?_
    clear hK K
    refine take_L (i := 11) rfl (by kernel_rfl) (by kernel_rfl) (by kernel_rfl) (by kernel_rfl) (fun _ _ _ _ h => HPan.out _ _ _ _ _ h) (by exact hHeld) (fun K hK => ?_)
    go_simp
    refine hK _ ?_
    clear hK K
    refine take_L (i := 12) rfl (by kernel_rfl) (by kernel_rfl) (by kernel_rfl) (by kernel_rfl) (fun _ _ _ _ h => HPan.out _ _ _ _ _ h) (by exact hHeld) (fun K hK => ?_)
    go_simp
    refine hK _ ?_
    clear hK K
    refine take_L (i := 13) rfl (by kernel_rfl) (by kernel_rfl) (by kernel_rfl) (by kernel_rfl) (fun _ _ _ _ h => HPan.out _ _ _ _ _ h) (by exact hHeld) (fun K hK => ?_)
    go_simp
    refine hK _ ?_
    clear hK K
    refine take_L (i := 14) rfl (by kernel_rfl) (by kernel_rfl) (by kernel_rfl) (by kernel_rfl) (fun _ _ _ _ h => HPan.out _ _ _ _ _ h) (by exact hHeld) (fun K hK => ?_)
    go_simp
    refine hK _ ?_
    clear hK K
    refine take_L (i := 15) rfl (by kernel_rfl) (by kernel_rfl) (by kernel_rfl) (by kernel_rfl) (fun _ _ _ _ h => HPan.out _ _ _ _ _ h) (by exact hHeld) (fun K hK => ?_)
    go_simp
    refine hK _ ?_
    clear hK K
    refine take_L (i := 16) rfl (by kernel_rfl) (by kernel_rfl) (by kernel_rfl) (by kernel_rfl) (fun _ _ _ _ h => HPan.out _ _ _ _ _ h) (by exact hHeld) (fun K hK => ?_)
    go_simp
    refine hK _ ?_
    clear hK K
    refine take_L (i := 17) rfl (by kernel_rfl) (by kernel_rfl) (by kernel_rfl) (by kernel_rfl) (fun _ _ _ _ h => HPan.out _ _ _ _ _ h) (by exact hHeld) (fun K hK => ?_)
    go_simp
    refine hK _ ?_
    clear hK K
    refine take_L (i := 18) rfl (by kernel_rfl) (by kernel_rfl) (by kernel_rfl) (by kernel_rfl) (fun _ _ _ _ h => HPan.out _ _ _ _ _ h) (by exact hHeld) (fun K hK => ?_)
    go_simp
    refine hK _ ?_
    clear hK K
    refine take_L (i := 19) rfl (by kernel_rfl) (by kernel_rfl) (by kernel_rfl) (by kernel_rfl) (fun _ _ _ _ h => HPan.out _ _ _ _ _ h) (by exact hHeld) (fun K hK => ?_)
    go_simp
    refine hK _ ?_
    clear hK K
    refine take_L (i := 20) rfl (by kernel_rfl) (by kernel_rfl) (by kernel_rfl) (by kernel_rfl) (fun _ _ _ _ h => HPan.out _ _ _ _ _ h) (by exact hHeld) (fun K hK => ?_)
    go_simp
    refine hK _ ?_
    clear hK K
    refine take_L (i := 21) rfl (by kernel_rfl) (by kernel_rfl) (by kernel_rfl) (by kernel_rfl) (fun _ _ _ _ h => HPan.out _ _ _ _ _ h) (by exact hHeld) (fun K hK => ?_)
    go_simp
    refine hK _ ?_
    clear hK K
    refine take_L (i := 22) rfl (by kernel_rfl) (by kernel_rfl) (by kernel_rfl) (by kernel_rfl) (fun _ _ _ _ h => HPan.out _ _ _ _ _ h) (by exact hHeld) (fun K hK => ?_)
    go_simp
    refine hK _ ?_
    clear hK K
    refine take_L (i := 23) rfl (by kernel_rfl) (by kernel_rfl) (by kernel_rfl) (by kernel_rfl) (fun _ _ _ _ h => HPan.out _ _ _ _ _ h) (by exact hHeld) (fun K hK => ?_)
    go_simp
    refine hK _ ?_
    clear hK K
    refine take_L (i := 24) rfl (by kernel_rfl) (by kernel_rfl) (by kernel_rfl) (by kernel_rfl) (fun _ _ _ _ h => HPan.out _ _ _ _ _ h) (by exact hHeld) (fun K hK => ?_)
    go_simp
    refine hK _ ?_
    clear hK K
    refine take_L (i := 25) rfl (by kernel_rfl) (by kernel_rfl) (by kernel_rfl) (by kernel_rfl) (fun _ _ _ _ h => HPan.out _ _ _ _ _ h) (by exact hHeld) (fun K hK => ?_)
    go_simp
    refine hK _ ?_
    clear hK K
    refine take_L (i := 26) rfl (by kernel_rfl) (by kernel_rfl) (by kernel_rfl) (by kernel_rfl) (fun _ _ _ _ h => HPan.out _ _ _ _ _ h) (by exact hHeld) (fun K hK => ?_)
    go_simp
    refine hK _ ?_
    clear hK K
    refine take_L (i := 27) rfl (by kernel_rfl) (by kernel_rfl) (by kernel_rfl) (by kernel_rfl) (fun _ _ _ _ h => HPan.out _ _ _ _ _ h) (by exact hHeld) (fun K hK => ?_)
    go_simp
    refine hK _ ?_
    clear hK K
    have Hpb : Hid (wr.heap.size ≤ va.heap.size) := hHeld.size
    refine one_L (i := 28) (by kernel_rfl) rfl (fun K hK => ?_)
    go_simp
    replace hHeld : Below wr.heap.size wr (va.alloc (.cells #[.int .i64 0, .int .i64 0, .int .i64 0] 52)) := hHeld.alloc hHeld.size _
    refine hK.out _ _ (fun _ => hHeld) ?_
    clear hK K y1 y2 y3 hne u1 u2 u3 u4 u5 w2' w3' r1 r2 r3 r4
    have HD4 : Hid ((va.alloc (.cells #[.int .i64 0, .int .i64 0, .int .i64 0] 52)).heap[va.heap.size]? = some (.cells #[.int .i64 0, .int .i64 0, .int .i64 0] 52 (0, 0))) := heap_alloc_new va _
    generalize va.alloc (.cells #[.int .i64 0, .int .i64 0, .int .i64 0] 52) = W4 at *
    generalize va.heap.size = pb at *
    clear va
    have p0 : W4.cell? ⟨pb, 0, none⟩ = some (.int .i64 0) := (cell_of_row W4 pb 0 _ 52 (0, 0) HD4.out).trans rfl
    have p1 : W4.cell? ⟨pb, 1, none⟩ = some (.int .i64 0) := (cell_of_row W4 pb 1 _ 52 (0, 0) HD4.out).trans rfl
    have p2 : W4.cell? ⟨pb, 2, none⟩ = some (.int .i64 0) := (cell_of_row W4 pb 2 _ 52 (0, 0) HD4.out).trans rfl
    have f0 : W4.frozen? ⟨pb, 0, none⟩ = false := frozen_of_row W4 pb 0 _ 52 HD4.out
    have f1 : W4.frozen? ⟨pb, 1, none⟩ = false := frozen_of_row W4 pb 1 _ 52 HD4.out
    have f2 : W4.frozen? ⟨pb, 2, none⟩ = false := frozen_of_row W4 pb 2 _ 52 HD4.out
    have hb5 : Below wr.heap.size wr (((W4.setCell ⟨pb, 0, none⟩ (.int .i64 PX)).setCell ⟨pb, 1, none⟩ (.int .i64 PY)).setCell ⟨pb, 2, none⟩ (.int .i64 PZ)) := ((hHeld.setCell (p := ⟨pb, 0, none⟩) Hpb.out _).setCell (p := ⟨pb, 1, none⟩) Hpb.out _).setCell (p := ⟨pb, 2, none⟩) Hpb.out _
    have HD5 : Hid ((((W4.setCell ⟨pb, 0, none⟩ (.int .i64 PX)).setCell ⟨pb, 1, none⟩ (.int .i64 PY)).setCell ⟨pb, 2, none⟩ (.int .i64 PZ)).heap[pb]? = some (.cells #[.int .i64 PX, .int .i64 PY, .int .i64 PZ] 52 (0, 0))) := by show _ = _; rw [heap_setCell_same _ pb 2 _ 52 _ (heap_setCell_same _ pb 1 _ 52 _ (heap_setCell_same W4 pb 0 _ 52 _ HD4.out))]; rfl
    refine one_L (i := 29) (by kernel_rfl) rfl (fun K hK => ?_)
    go_simp
    refine hK.out _ _ (fun _ => hb5) ?_
    clear hK K p0 p1 p2 f0 f1 f2
    refine done_L (by kernel_rfl) ?_ _
    generalize ((W4.setCell ⟨pb, 0, none⟩ (.int .i64 PX)).setCell ⟨pb, 1, none⟩ (.int .i64 PY)).setCell ⟨pb, 2, none⟩ (.int .i64 PZ) = W5 at *
    clear hHeld HD4 Hpb W4
    have HW5 : Hid (Below w6.heap.size w6 W5) := HW.out.trans (hb5.mono HW.out.size)
    clear hb5 HW
    obtain ⟨bpx0, bpx1⟩ := bpx
    obtain ⟨bpy0, bpy1⟩ := bpy
    obtain ⟨bpz0, bpz1⟩ := bpz
    have hcl := fun w' => rclaim_c t PX PY PZ 0 w' Hokt.out.1 (by omega) (by omega) (by omega) (by have := Hokt.out.2.1; omega) (by have := Hokt.out.2.2.1; omega) (by have := Hokt.out.2.2.2.1; omega) Hokt.out.2.2.2.2
    have hte : ∀ o, told o = .returned (.tuple #[.int .i64 (o.getD 0), .bool o.isSome]) := fun _ => rfl
    simp only [hte] at hcl
    obtain ⟨o, ho⟩ : ∃ o, clm t PX PY PZ 0 = o := ⟨_, rfl⟩
    have Ho : Hid (clm t PX PY PZ 0 = o) := ho
    rw [ho] at hcl
    have Hcl : Hid (∀ w', Calls Try.prog 18 #[thingV t, .agg #[.int .i64 PX, .int .i64 PY, .int .i64 PZ], .int .i64 0] w' fun e w'' => e = .returned (.tuple #[.int .i64 (o.getD 0), .bool o.isSome]) ∧ Below w'.heap.size w' w'') := hcl
    clear hcl hte ho
    unfold thingV at Hcl
    obtain ⟨_, _, e0, _, hcells⟩ := (HO6.out.on HW5.out).cell (by omega)
    cases e0
    have t0 := (hcells n t Ht.out 0 (by omega)).trans (show (rowV t)[0]? = some (.int .i64 (t.s : Int)) from rfl)
    have t1 := (hcells n t Ht.out 1 (by omega)).trans (show (rowV t)[1]? = some (.int .i64 t.x) from rfl)
    have t2 := (hcells n t Ht.out 2 (by omega)).trans (show (rowV t)[2]? = some (.int .i64 t.z) from rfl)
    have t3 := (hcells n t Ht.out 3 (by omega)).trans (show (rowV t)[3]? = some (.int .i64 t.h) from rfl)
    have t4 := (hcells n t Ht.out 4 (by omega)).trans (show (rowV t)[4]? = some (.int .i64 t.l) from rfl)
    rw [Nat.add_zero] at t0
    clear hcells
    have p0 : W5.cell? ⟨pb, 0, none⟩ = some (.int .i64 PX) := (cell_of_row W5 pb 0 _ 52 (0, 0) HD5.out).trans rfl
    have p1 : W5.cell? ⟨pb, 1, none⟩ = some (.int .i64 PY) := (cell_of_row W5 pb 1 _ 52 (0, 0) HD5.out).trans rfl
    have p2 : W5.cell? ⟨pb, 2, none⟩ = some (.int .i64 PZ) := (cell_of_row W5 pb 2 _ 52 (0, 0) HD5.out).trans rfl
    go_wp2_with fail
    have hsome := since_some W5
    have s0 := fun s : Since W5 => Since.cell t0 s
    have s1 := fun s : Since W5 => Since.cell t1 s
    have s2 := fun s : Since W5 => Since.cell t2 s
    have s3 := fun s : Since W5 => Since.cell t3 s
    have s4 := fun s : Since W5 => Since.cell t4 s
    have a0 := fun s : Since W5 => Since.cell p0 s
    have a1 := fun s : Since W5 => Since.cell p1 s
    have a2 := fun s : Since W5 => Since.cell p2 s
    refine wp_region_since (by kernel_rfl) (by kernel_rfl) ?_
    repeat (go_big_quiet_step (first | (go_at_call 18; exact Calls.since (Hcl.out _))))
    refine wpQuiet_nil ?_
    rintro _ ⟨s, rfl⟩
    have HW8 : Hid (Below w6.heap.size w6 s.w) := HW5.out.trans (s.bel.mono HW5.out.size)
    have HD8 : Hid (s.w.heap[pb]? = some (.cells #[.int .i64 PX, .int .i64 PY, .int .i64 PZ] 52 (0, 0))) := (s.bel.block _ (Array.getElem?_eq_some_iff.1 HD5.out).1).trans HD5.out
    generalize s.w = W8 at *
    clear hsome s0 s1 s2 s3 s4 a0 a1 a2 t0 t1 t2 t3 t4 p0 p1 p2 HW5 HD5 Hcl
    have k0 := (HB6.out.on HW8.out).k0
    have k1 := (HB6.out.on HW8.out).k1
    have p0 : W8.cell? ⟨pb, 0, none⟩ = some (.int .i64 PX) := (cell_of_row W8 pb 0 _ 52 (0, 0) HD8.out).trans rfl
    have p1 : W8.cell? ⟨pb, 1, none⟩ = some (.int .i64 PY) := (cell_of_row W8 pb 1 _ 52 (0, 0) HD8.out).trans rfl
    have p2 : W8.cell? ⟨pb, 2, none⟩ = some (.int .i64 PZ) := (cell_of_row W8 pb 2 _ 52 (0, 0) HD8.out).trans rfl
    obtain ⟨cx0, cx1⟩ := hf.1
    obtain ⟨cz0, cz1⟩ := hf.2
    obtain ⟨XR, hXR⟩ : ∃ v : Int, PX - cx * 16 + 16 = v := ⟨_, rfl⟩
    obtain ⟨ZR, hZR⟩ : ∃ v : Int, PZ - cz * 16 + 16 = v := ⟨_, rfl⟩
    rcases o with _ | want
    · clear HM6 HO6 Hoka Hfk Hmt
      go_wp2
      exact ⟨⟨N + 1, by omega, by simp, HW8⟩, by simp [intOf]; omega⟩
    by_cases q1 : XR < 0
    · clear HM6 HO6 Hoka Hfk Hmt
      go_wp2
      exact ⟨⟨N + 1, by omega, by simp, HW8⟩, by simp [intOf]; omega⟩
    by_cases q2 : 47 < XR
    · clear HM6 HO6 Hoka Hfk Hmt
      go_wp2
      exact ⟨⟨N + 1, by omega, by simp, HW8⟩, by simp [intOf]; omega⟩
    by_cases q3 : ZR < 0
    · clear HM6 HO6 Hoka Hfk Hmt
      go_wp2
      exact ⟨⟨N + 1, by omega, by simp, HW8⟩, by simp [intOf]; omega⟩
    by_cases q4 : 47 < ZR
    · clear HM6 HO6 Hoka Hfk Hmt
      go_wp2
      exact ⟨⟨N + 1, by omega, by simp, HW8⟩, by simp [intOf]; omega⟩
    by_cases q5 : 128 ≤ PY
    · clear HM6 HO6 Hoka Hfk Hmt
      go_wp2
      exact ⟨⟨N + 1, by omega, by simp, HW8⟩, by simp [intOf]; omega⟩
    obtain ⟨A, B, C, E, D9, K9, ⟨bA2, bB2, bC2, bE2⟩, x1, x2, x3, x4, hD9, hK9, hD9l, hK9l, e1, e2, e3⟩ := meet_ar hXR hZR (by omega) (by omega) (by omega) (by omega) bpy0 (by omega)
    have Hgot : Hid (∃ (m : Nat) (u : Thing), al[m]? = some u ∧ clm u PX PY PZ 0 = some ((f D9).getD K9 0)) := by
      have h := Hmt.out D9 K9 want hD9l hK9l
      rw [e1, e2, e3] at h
      obtain ⟨u, hu, he⟩ := h Ho.out
      obtain ⟨m, hm⟩ := List.getElem?_of_mem hu
      exact ⟨m, u, hm, he⟩
    obtain ⟨gb0, gb1⟩ := (Hfk.out D9).2.at K9
    obtain ⟨b', e0, hrow⟩ := (HM6.out.on HW8.out).rowAt (i := 0) (by omega)
    cases e0
    have nr : W8.cell? ⟨b, D9, none⟩ = some (.slice (some ⟨gs.getD D9 0, 0, none⟩) 32768 32768) := hrow D9 hD9l
    have nc := ((HM6.out.on HW8.out).blk D9 hD9l).cell (k := K9) (by rw [(Hfk.out D9).1]; exact hK9l)
    clear hrow
    generalize gs.getD D9 0 = gd at nr nc
    generalize (f D9).getD K9 0 = got at *
    obtain ⟨ga, ca, hav2, _, _⟩ := HM6.out.all.cell (by obtain ⟨m, u, hm, _⟩ := Hgot.out; have := (List.getElem?_eq_some_iff.1 hm).1; omega)
    cases hav2
    have hD9' : (D9 : Int) < 9 := by omega
    have hK9' : (K9 : Int) < 32768 := by omega
    clear e1 e2 e3
    go_wp2_with fail
    have hsome := since_some W8
    have s0 := fun s : Since W8 => Since.cell nr s
    have s1 := fun s : Since W8 => Since.cell nc s
    have a1 := fun s : Since W8 => Since.cell p1 s
    refine wp_region_since (by kernel_rfl) (by kernel_rfl) ?_
    repeat (go_big_quiet_step (fail))
    refine wpQuiet_nil ?_
    rintro _ ⟨s, rfl⟩
    have HW9 : Hid (Below w6.heap.size w6 s.w) := HW8.out.trans (s.bel.mono HW8.out.size)
    have HD9 : Hid (s.w.heap[pb]? = some (.cells #[.int .i64 PX, .int .i64 PY, .int .i64 PZ] 52 (0, 0))) := (s.bel.block _ (Array.getElem?_eq_some_iff.1 HD8.out).1).trans HD8.out
    generalize s.w = W9 at *
    clear hsome s0 s1 a1 nr nc p0 p1 p2 k0 k1 HW8 HD8 x1 x2 x3 x4 hD9 hK9 hXR hZR
    by_cases eg : got = want
    · clear HM6 HO6 Hoka Hfk Hmt Hgot
      go_wp2
      exact ⟨⟨N + 1, by omega, by simp, HW9⟩, by simp [intOf]; omega⟩
    have Hbz : Hid ((-100000000002 ≤ PX ∧ PX ≤ 100000000002) ∧ (0 ≤ PY ∧ PY ≤ 138) ∧ -100000000002 ≤ PZ ∧ PZ ≤ 100000000002) := ⟨⟨bpx0, bpx1⟩, ⟨bpy0, bpy1⟩, bpz0, bpz1⟩
    have hOa := HM6.out.all
    go_wp2_with fail
    refine meet_loop _ al ga _ pb _ PX PY PZ got w6 _ hal Hoka.out hOa Hbz.out.1 Hbz.out.2.1 Hbz.out.2.2 HW9.out HD9.out ?_
    intro β z30 z31 z32 z229 z230 z231 z232 z233 z234 z235 z236 z237 z238 z239 z240 z241 z242 z243 z244 z245 z246 z247 z248 z249 z250 z251 z252 W' hβ hW'
    obtain rfl : β = true := by
      obtain ⟨m, u, hm, hu⟩ := Hgot.out
      exact hβ m u hm hu
    have HW11 : Hid (Below w6.heap.size w6 W') := hW'
    clear HM6 HO6 Hoka Hfk Hmt Hgot hβ hW' hOa
    go_wp2
    exact ⟨⟨N + 1, by omega, by simp, HW11⟩, by simp [intOf]; omega⟩
end
section
open C Go.RowKit

set_option maxRecDepth 1000000 in
set_option maxHeartbeats 8000000 in
theorem meet_things (Q : Exit → Act → World → Prop) {c0 c1 c2 c3 c4 c6 c7 c9 c10 c11 c12 c13 c16 c17 c18 c19 c33 c34 c35 c36 c37 c38 c39 c40 c41 c42 c43 c44 c45 c46 c47 c48 c49 c50 c51 c52 c53 c54 c55 c56 c57 c58 c59 c60 c61 c62 c63 c64 c65 c66 c67 c68 c69 c70 c71 c72 c73 c74 c75 c76 c77 c78 c79 c80 c81 c82 c83 c84 c85 c86 c87 c88 c89 c90 c91 c92 c93 c94 c95 c96 c97 c98 c99 c100 c101 c102 c103 c104 c105 c106 c107 c108 c109 c110 c111 c112 c113 c114 c115 c116 c117 c118 c119 v8 v22 v23 v24 v25 v26 v27 v28 v29 v30 v31 v32 v120 v121 v122 v123 v124 v125 v126 v127 v128 v129 v130 v131 v132 v133 v134 v135 v136 v137 v138 v139 v140 v141 v142 v143 v144 v145 v146 v147 v148 v149 v150 v151 v152 v153 v154 v155 v156 v157 v158 v159 v160 v161 v162 v163 v164 v165 v166 v167 v168 v169 v170 v171 v172 v173 v174 v175 v176 v177 v178 v179 v180 v181 v182 v183 v184 v185 v186 v187 v188 v189 v190 v191 v192 v193 v194 v195 v196 v197 v198 v199 v200 v201 v202 v203 v204 v205 v206 v207 v208 v209 v210 v211 v212 v213 v214 v215 v216 v217 v218 v219 v220 v221 v222 v223 v224 v225 v226 v227 v228 v229 v230 v231 v232 v233 v234 v235 v236 v237 v238 v239 v240 v241 v242 v243 v244 v245 v246 v247 v248 v249 v250 v251 v252 v253 v254 : Value} (w w5 w6 : World) (cx cz : Int) (hf : Far 1073741824 cx ∧ Far 1073741824 cz) (l al : List Thing) (f : Nat → List Int) (gs : List Nat) (b cv tc lb ac : Nat) (aa ta : Option Addr)
    (HB6 : Hid (Bx w cx cz w6)) (HM6 : Hid (MeetI w5 f 9 (some ⟨b, 0, none⟩) cv gs (.slice aa al.length ac) al w6)) (HO6 : Hid (OwnT w6 lb (.slice ta l.length tc) l)) (Hokl : Hid (∀ t ∈ l, OkT t)) (Hoka : Hid (∀ t ∈ al, OkT t)) (Hfk : Hid (∀ i, (f i).length = 32768 ∧ Kinds (f i)))
    (Hmt : Hid (∀ t ∈ l, ∀ (D K : Nat) (want : Int), D < 9 → K < 32768 → clm t (dX cx D * 16 + (K : Int) % 16) ((K : Int) / 256) (dZ cz D * 16 + (K : Int) / 16 % 16) 0 = some want → ∃ u ∈ al, clm u (dX cx D * 16 + (K : Int) % 16) ((K : Int) / 256) (dZ cz D * 16 + (K : Int) / 16 % 16) 0 = some ((f D).getD K 0))) (hal : al.length ≤ 2700) (hll : l.length ≤ 100000)
    (HPan : Hid (∀ (c : List PanicEntry) (a : Act) (d : Option Tmp) (v : Value) (w' : World), Q (.panic c) (a.put d v) w' → Q (.panic c) a w')) (HX : Hid (∀ (u8 u21 u22 u23 u24 u25 u26 u27 u28 u29 u30 u31 u32 u120 u121 u122 u123 u124 u125 u126 u127 u128 u129 u130 u131 u132 u133 u134 u135 u136 u137 u138 u139 u140 u141 u142 u143 u144 u145 u146 u147 u148 u149 u150 u151 u152 u153 u154 u155 u156 u157 u158 u159 u160 u161 u162 u163 u164 u165 u166 u167 u168 u169 u170 u171 u172 u173 u174 u175 u176 u177 u178 u179 u180 u181 u182 u183 u184 u185 u186 u187 u188 u189 u190 u191 u192 u193 u194 u195 u196 u197 u198 u199 u200 u201 u202 u203 u204 u205 u206 u207 u208 u209 u210 u211 u212 u213 u214 u215 u216 u217 u218 u219 u220 u221 u222 u223 u224 u225 u226 u227 u228 u229 u230 u231 u232 u233 u234 u235 u236 u237 u238 u239 u240 u241 u242 u243 u244 u245 u246 u247 u248 u249 u250 u251 u252 u253 u254 : Value) (W' : World), Below w6.heap.size w6 W' → Q (.exit 2) ⟨List.toArray (c0 :: c1 :: c2 :: c3 :: c4 :: (.pointer (some ⟨w.heap.size, 0, none⟩)) :: c6 :: c7 :: u8 :: c9 :: c10 :: c11 :: c12 :: c13 :: (.slice (some ⟨b, 0, none⟩) 9 cv) :: (.slice aa al.length ac) :: c16 :: c17 :: c18 :: c19 :: (.slice ta l.length tc) :: u21 :: u22 :: u23 :: u24 :: u25 :: u26 :: u27 :: u28 :: u29 :: u30 :: u31 :: u32 :: c33 :: c34 :: c35 :: c36 :: c37 :: c38 :: c39 :: c40 :: c41 :: c42 :: c43 :: c44 :: c45 :: c46 :: c47 :: c48 :: c49 :: c50 :: c51 :: c52 :: c53 :: c54 :: c55 :: c56 :: c57 :: c58 :: c59 :: c60 :: c61 :: c62 :: c63 :: c64 :: c65 :: c66 :: c67 :: c68 :: c69 :: c70 :: c71 :: c72 :: c73 :: c74 :: c75 :: c76 :: c77 :: c78 :: c79 :: c80 :: c81 :: c82 :: c83 :: c84 :: c85 :: c86 :: c87 :: c88 :: c89 :: c90 :: c91 :: c92 :: c93 :: c94 :: c95 :: c96 :: c97 :: c98 :: c99 :: c100 :: c101 :: c102 :: c103 :: c104 :: c105 :: c106 :: c107 :: c108 :: c109 :: c110 :: c111 :: c112 :: c113 :: c114 :: c115 :: c116 :: c117 :: c118 :: c119 :: u120 :: u121 :: u122 :: u123 :: u124 :: u125 :: u126 :: u127 :: u128 :: u129 :: u130 :: u131 :: u132 :: u133 :: u134 :: u135 :: u136 :: u137 :: u138 :: u139 :: u140 :: u141 :: u142 :: u143 :: u144 :: u145 :: u146 :: u147 :: u148 :: u149 :: u150 :: u151 :: u152 :: u153 :: u154 :: u155 :: u156 :: u157 :: u158 :: u159 :: u160 :: u161 :: u162 :: u163 :: u164 :: u165 :: u166 :: u167 :: u168 :: u169 :: u170 :: u171 :: u172 :: u173 :: u174 :: u175 :: u176 :: u177 :: u178 :: u179 :: u180 :: u181 :: u182 :: u183 :: u184 :: u185 :: u186 :: u187 :: u188 :: u189 :: u190 :: u191 :: u192 :: u193 :: u194 :: u195 :: u196 :: u197 :: u198 :: u199 :: u200 :: u201 :: u202 :: u203 :: u204 :: u205 :: u206 :: u207 :: u208 :: u209 :: u210 :: u211 :: u212 :: u213 :: u214 :: u215 :: u216 :: u217 :: u218 :: u219 :: u220 :: u221 :: u222 :: u223 :: u224 :: u225 :: u226 :: u227 :: u228 :: u229 :: u230 :: u231 :: u232 :: u233 :: u234 :: u235 :: u236 :: u237 :: u238 :: u239 :: u240 :: u241 :: u242 :: u243 :: u244 :: u245 :: u246 :: u247 :: u248 :: u249 :: u250 :: u251 :: u252 :: u253 :: u254 :: []), []⟩ W')) :
    Code.wp Try.prog ((Try.f5.body.bind (blkOf 2)).getD .skip) Q ⟨List.toArray (c0 :: c1 :: c2 :: c3 :: c4 :: (.pointer (some ⟨w.heap.size, 0, none⟩)) :: c6 :: c7 :: v8 :: c9 :: c10 :: c11 :: c12 :: c13 :: (.slice (some ⟨b, 0, none⟩) 9 cv) :: (.slice aa al.length ac) :: c16 :: c17 :: c18 :: c19 :: (.slice ta l.length tc) :: (.int .i64 0) :: v22 :: v23 :: v24 :: v25 :: v26 :: v27 :: v28 :: v29 :: v30 :: v31 :: v32 :: c33 :: c34 :: c35 :: c36 :: c37 :: c38 :: c39 :: c40 :: c41 :: c42 :: c43 :: c44 :: c45 :: c46 :: c47 :: c48 :: c49 :: c50 :: c51 :: c52 :: c53 :: c54 :: c55 :: c56 :: c57 :: c58 :: c59 :: c60 :: c61 :: c62 :: c63 :: c64 :: c65 :: c66 :: c67 :: c68 :: c69 :: c70 :: c71 :: c72 :: c73 :: c74 :: c75 :: c76 :: c77 :: c78 :: c79 :: c80 :: c81 :: c82 :: c83 :: c84 :: c85 :: c86 :: c87 :: c88 :: c89 :: c90 :: c91 :: c92 :: c93 :: c94 :: c95 :: c96 :: c97 :: c98 :: c99 :: c100 :: c101 :: c102 :: c103 :: c104 :: c105 :: c106 :: c107 :: c108 :: c109 :: c110 :: c111 :: c112 :: c113 :: c114 :: c115 :: c116 :: c117 :: c118 :: c119 :: v120 :: v121 :: v122 :: v123 :: v124 :: v125 :: v126 :: v127 :: v128 :: v129 :: v130 :: v131 :: v132 :: v133 :: v134 :: v135 :: v136 :: v137 :: v138 :: v139 :: v140 :: v141 :: v142 :: v143 :: v144 :: v145 :: v146 :: v147 :: v148 :: v149 :: v150 :: v151 :: v152 :: v153 :: v154 :: v155 :: v156 :: v157 :: v158 :: v159 :: v160 :: v161 :: v162 :: v163 :: v164 :: v165 :: v166 :: v167 :: v168 :: v169 :: v170 :: v171 :: v172 :: v173 :: v174 :: v175 :: v176 :: v177 :: v178 :: v179 :: v180 :: v181 :: v182 :: v183 :: v184 :: v185 :: v186 :: v187 :: v188 :: v189 :: v190 :: v191 :: v192 :: v193 :: v194 :: v195 :: v196 :: v197 :: v198 :: v199 :: v200 :: v201 :: v202 :: v203 :: v204 :: v205 :: v206 :: v207 :: v208 :: v209 :: v210 :: v211 :: v212 :: v213 :: v214 :: v215 :: v216 :: v217 :: v218 :: v219 :: v220 :: v221 :: v222 :: v223 :: v224 :: v225 :: v226 :: v227 :: v228 :: v229 :: v230 :: v231 :: v232 :: v233 :: v234 :: v235 :: v236 :: v237 :: v238 :: v239 :: v240 :: v241 :: v242 :: v243 :: v244 :: v245 :: v246 :: v247 :: v248 :: v249 :: v250 :: v251 :: v252 :: v253 :: v254 :: []), []⟩ w6 := by
  conv => arg 2; whnf
  go_loopw [21] (fun vi wr => ∃ n : Nat, n ≤ l.length ∧ vi = .int .i64 (n : Int) ∧ Hid (Below w6.heap.size w6 wr)) (fun vi _ => l.length - (intOf vi).toNat)
  case atStart => exact ⟨0, by omega, rfl, Below.refl _ _⟩
  case round =>
    obtain ⟨n, hn, rfl, HW⟩ := hrel
    by_cases hnl : n < l.length
    case neg =>
      have hge2 : ¬ (n : Int) < (l.length : Int) := by omega
      clear HM6 HO6 Hokl Hoka Hfk Hmt HB6
      go_wp2
      exact HX.out _ _ _ _ _ _ _ _ _ _ _ _ _ _ _ _ _ _ _ _ _ _ _ _ _ _ _ _ _ _ _ _ _ _ _ _ _ _ _ _ _ _ _ _ _ _ _ _ _ _ _ _ _ _ _ _ _ _ _ _ _ _ _ _ _ _ _ _ _ _ _ _ _ _ _ _ _ _ _ _ _ _ _ _ _ _ _ _ _ _ _ _ _ _ _ _ _ _ _ _ _ _ _ _ _ _ _ _ _ _ _ _ _ _ _ _ _ _ _ _ _ _ _ _ _ _ _ _ _ _ _ _ _ _ _ _ _ _ _ _ _ _ _ _ _ _ _ _ _ HW.out
    have hn' : (n : Int) < (l.length : Int) := by omega
    obtain ⟨t, ht⟩ : ∃ t, l[n]? = some t := ⟨l[n], List.getElem?_eq_getElem hnl⟩
    have Ht : Hid (l[n]? = some t) := ht
    have Hokt : Hid (OkT t) := Hokl.out t (List.mem_of_getElem? ht)
    have Hmt2 : Hid (∀ (D K : Nat) (want : Int), D < 9 → K < 32768 → clm t (dX cx D * 16 + (K : Int) % 16) ((K : Int) / 256) (dZ cz D * 16 + (K : Int) / 16 % 16) 0 = some want → ∃ u ∈ al, clm u (dX cx D * 16 + (K : Int) % 16) ((K : Int) / 256) (dZ cz D * 16 + (K : Int) / 16 % 16) 0 = some ((f D).getD K 0)) := Hmt.out t (List.mem_of_getElem? ht)
    obtain ⟨g0, c0', hav, hg0, _⟩ := HO6.out.cell (by omega)
    cases hav
    clear ht
    obtain ⟨wq, hwq⟩ : ∃ wq, wq = wr := ⟨_, rfl⟩
    subst hwq
    go_wp2_with fail
    refine meet_cells _ w w5 w6 wq cx cz hf l al f gs b cv g0 _ lb n ac aa t HB6 HM6 HO6 Ht Hokt Hoka Hfk Hmt2 hal HW (fun c a d v w' h => HPan.out c a d v w' h) ?_
    intro z8 z22 z23 z24 z25 z26 z27 z28 z29 z30 z31 z32 z126 z127 z128 z129 z130 z131 z132 z133 z134 z135 z136 z137 z138 z139 z140 z141 z142 z143 z144 z145 z146 z147 z148 z149 z150 z151 z152 z153 z154 z155 z156 z157 z158 z159 z160 z161 z162 z163 z164 z165 z166 z167 z168 z169 z170 z171 z172 z173 z174 z175 z176 z177 z178 z179 z180 z181 z182 z183 z184 z185 z186 z187 z188 z189 z190 z191 z192 z193 z194 z195 z196 z197 z198 z199 z200 z201 z202 z203 z204 z205 z206 z207 z208 z209 z210 z211 z212 z213 z214 z215 z216 z217 z218 z219 z220 z221 z222 z223 z224 z225 z226 z227 z228 z229 z230 z231 z232 z233 z234 z235 z236 z237 z238 z239 z240 z241 z242 z243 z244 z245 z246 z247 z248 z249 z250 z251 z252 z253 z254 W' hW'
    have HW11 : Hid (Below w6.heap.size w6 W') := hW'
    clear HM6 HO6 Hokl Hoka Hfk Hmt Hmt2 hW' HB6 HX
    go_wp2
    exact ⟨⟨n + 1, by omega, by simp, HW11⟩, by simp [intOf]; omega⟩
end
end Go.Proofs.Ytbdjgaagafnfaaa
