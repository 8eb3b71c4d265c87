/-
  Walk of BuildMeets.
-/
import Derived.Test.YtbdjgaagafnfaaaBmeett
set_option maxRecDepth 20000
namespace Go.Proofs.Ytbdjgaagafnfaaa
open C Go.RowKit

theorem allT_ok {S : Nat} {cx cz high band : Int} (hcx : Far 1073741824 cx) (hcz : Far 1073741824 cz) (hh : okG 128 (flatN high)) : ∀ t ∈ allT S cx cz high band 9, OkT t := fun t ht => by
  obtain ⟨i, hi, h⟩ := allT_of ht
  exact things_ok (by unfold dX; have := hcx.1; have := hcx.2; omega) (by unfold dZ; have := hcz.1; have := hcz.2; omega) hh h
theorem Blk.grownRow {w w' : World} {B n : Nat} {v : Value} {L : List Value} (h : w.ownsRow B 37 1 v n L) (hg : w.grownBy w' v.ownBlock) {g : Nat} {a : Array Value} (hB : w.heap[g]? = some (.cells a 31 (0, 0))) : w'.heap[g]? = some (.cells a 31 (0, 0)) :=
  (hg.block g (Array.getElem?_eq_some_iff.1 hB).1 (row_other h (by decide) hB).symm).trans hB
theorem wpList_append_bytes2 {w : World} {ops : Array Oper} {rest : List Oper} {o : Oper} {a : Act} {Q : Exit → Act → World → Prop} {w0 : World} {f : Nat → List Int} {n : Nat} {av : Option Addr} {cv : Nat} {gs : List Nat} {v : Value} {al : List Thing}
    (hgd : o.guard = none) (s x : Operand) (ho : o.op = .call { callee := .builtin .append, args := #[s, x], argTypes := #[46, 46] }) (hM : MeetI w0 f n av cv gs v al w) (hs : a.eval s = .slice av n cv) 
    (ad : Addr) (p : Nat) (hx : a.eval x = .slice (some ad) 1 1) (hp : Blk w p 5 (f n)) (hnews : ∀ j u, [slB p][j]? = some u → w.cell? (ad.add j) = some u) (hle : n ≤ 100000)
    {db : Nat} {X Z : Int} (hD : w.heap[db]? = some (.cells #[.int .i64 X, .int .i64 Z] 31 (0, 0)))
    (h : ∀ nb c' gi w', MeetI w0 f (n + 1) (some ⟨nb, 0, none⟩) c' (gs ++ [p]) v al w' → w'.cell? ⟨db, 0, none⟩ = some (.int .i64 X) → w'.cell? ⟨db, 1, none⟩ = some (.int .i64 Z) → w'.cell? ⟨nb, n, none⟩ = some (.slice (some ⟨gi, 0, none⟩) 32768 32768) → wpList Try.prog ops Q rest (a.put o.dst (.slice (some ⟨nb, 0, none⟩) (n + 1) c')) w') : wpList Try.prog ops Q (o :: rest) a w := by
  have hinfo : (Try.prog.info? 37).map (fun i => (i.zero, i.size, i.bytes)) = some (some (.slice none 0 0), 1, 24) := by kernel_rfl
  obtain ⟨i, hi, hz0, hz1, hz2⟩ := info_parts hinfo
  refine wpList_append_own_at w hgd s x 46 ho w0.heap.size 37 i _ 1 24 Try.underlying46 hi hz0 hz1 hz2 rfl (by decide) _ _ _ hs hM.near ad 1 1 [slB p] hx rfl hnews (by simp [slB, Value.oneCell']) (by unfold maxLen; omega) (by omega) hM.bel.size ?_
  intro v' w' h1 h2 _ _
  have e : ∃ a' c', v' = .slice a' (n + 1) c' := by
    rcases h1.2 with ⟨hv, hn⟩ | ⟨g, cap, _, hv, _⟩
    · omega
    · exact ⟨_, _, hv⟩
  obtain ⟨a', c', rfl⟩ := e
  have hM' := hM.addNear hp h1 h2
  have hD' := Blk.grownRow hM.near h2 hD
  obtain ⟨nb, rfl, hrow⟩ := hM'.rowAt (i := n) (by omega)
  exact h nb c' _ w' hM' ((cell_of_row w' db 0 _ 31 (0, 0) hD').trans rfl) ((cell_of_row w' db 1 _ 31 (0, 0) hD').trans rfl) (hrow n (by omega))
set_option maxRecDepth 1000000 in
set_option maxHeartbeats 8000000 in
theorem buildMeets_walk (J : BSpec) (S : Nat) (cx cz high band : Int) (w : World) (hS : S < 18446744073709551616) (hG : J.G w) :
    Calls Try.prog 5 #[.int .u64 S, .agg #[.int .i64 cx, .int .i64 cz], .int .i64 high, .int .i64 band] w fun e w' => e = .returned (.bool true) ∧ Below w.heap.size w w' := by
  have HG : Hid (J.G w) := hG
  clear hG
  obtain ⟨β, hβ⟩ := far_bool cx cz
  by_cases hf : Far 1073741824 cx ∧ Far 1073741824 cz
  case neg =>
    obtain rfl : β = true := by
      rcases β with _ | _
      · exact absurd (hβ.1 rfl) hf
      · rfl
    have Hfar : Hid (∀ w1, Calls Try.prog 10 #[.agg #[.int .i64 cx, .int .i64 cz]] w1 fun e w' => e = .returned (.bool true) ∧ Below w1.heap.size w1 w') := fun w1 => far_c cx cz _ w1 hβ
    clear hβ hf
    go_enter Try.func5, Try.ntmps5
    go_wp2_with fail
    refine (awake_c J _ (J.on HG.out (Bx.start w cx cz).bel)).mono ?_
    rintro _ w1 ⟨rfl, hw1⟩
    have HB1 : Hid (Bx w cx cz w1) := (Bx.start w cx cz).on hw1
    have k0 := HB1.out.k0
    have k1 := HB1.out.k1
    clear hw1
    have hfar := Hfar.out w1
    go_wp2_with fail
    refine hfar.mono ?_
    clear hfar k0 k1
    rintro _ w2 ⟨rfl, hb2⟩
    have HB2 : Hid (Bx w cx cz w2) := HB1.out.on hb2
    clear hb2 HB1
    go_wp2
    go_ret
    exact ⟨rfl, HB2.out.bel⟩
  obtain rfl : β = false := hβ.2 hf
  have Hfar : Hid (∀ w1, Calls Try.prog 10 #[.agg #[.int .i64 cx, .int .i64 cz]] w1 fun e w' => e = .returned (.bool false) ∧ Below w1.heap.size w1 w') := fun w1 => far_c cx cz _ w1 hβ
  clear hβ
  go_enter Try.func5, Try.ntmps5
  go_wp2_with fail
  refine (awake_c J _ (J.on HG.out (Bx.start w cx cz).bel)).mono ?_
  rintro _ w1 ⟨rfl, hw1⟩
  have HB1 : Hid (Bx w cx cz w1) := (Bx.start w cx cz).on hw1
  have k0 := HB1.out.k0
  have k1 := HB1.out.k1
  clear hw1
  have hfar := Hfar.out w1
  go_wp2_with fail
  refine hfar.mono ?_
  clear hfar k0 k1
  rintro _ w2 ⟨rfl, hb2⟩
  have HB2 : Hid (Bx w cx cz w2) := HB1.out.on hb2
  by_cases c1 : high < 0
  case pos =>
    clear hb2 HB1
    go_wp2
    go_ret
    exact ⟨rfl, HB2.out.bel⟩
  by_cases c2 : 100 < high
  case pos =>
    clear hb2 HB1
    go_wp2
    go_ret
    exact ⟨rfl, HB2.out.bel⟩
  by_cases c3 : band < 0
  case pos =>
    clear hb2 HB1
    go_wp2
    go_ret
    exact ⟨rfl, HB2.out.bel⟩
  by_cases c4 : 4 ≤ band
  case pos =>
    clear hb2 HB1
    go_wp2
    go_ret
    exact ⟨rfl, HB2.out.bel⟩
  have hnew := rnew_c 0 (by omega) (by omega) w2
  clear hb2 HB1
  generalize List.replicate 32768 (0 : Int) = Z0 at hnew
  go_wp2_with fail
  refine hnew.mono ?_
  clear hnew
  rintro _ w3 ⟨rfl, _, hb3⟩
  have HB3 : Hid (Bx w cx cz w3) := HB2.out.on hb3
  clear hb3 HB2
  generalize w2.heap.size = ag at *
  have hfl := flat_c high w3
  go_wp2_with fail
  refine hfl.mono ?_
  clear hfl
  rintro _ w4 ⟨hb4, b1, cp1, g1, c1, rfl, hL1⟩
  have HB4 : Hid (Bx w cx cz w4) := HB3.out.on hb4
  have HL4 : Hid (L9 w4 b1 g1 c1 (flatN high)) := hL1
  clear hb4 HB3 hL1
  have hfl := flat_c band w4
  go_wp2_with fail
  refine hfl.mono ?_
  clear hfl
  rintro _ w5 ⟨hb5, b2, cp2, g2, c2, rfl, hL2⟩
  have HB5 : Hid (Bx w cx cz w5) := HB4.out.on hb5
  have HL5 : Hid (L9 w5 b1 g1 c1 (flatN high) ∧ L9 w5 b2 g2 c2 (flatN band)) := ⟨HL4.out.on hb5, hL2⟩
  have HoH : Hid (okG 128 (flatN high) ∧ okG 4 (flatN band)) := ⟨flat_ok (by omega) (by omega), flat_ok (by omega) (by omega)⟩
  clear hb5 HB4 HL4 hL2
  go_wp2
  go_loopw [14, 15, 16] (fun vn va vi wr => ∃ (i : Nat) (av : Option Addr) (cv : Nat) (gs : List Nat), vi = .int .i64 (i : Int) ∧ vn = .slice av i cv ∧ i ≤ 9 ∧ Hid (MeetI w5 (nineC S cx cz high band) i av cv gs va (allT S cx cz high band i) wr ∧ (allT S cx cz high band i).length ≤ 300 * i)) (fun _ _ vi _ => 9 - (intOf vi).toNat)
  case atStart => exact ⟨0, none, 0, [], rfl, rfl, by omega, MeetI.init, by simp [allT]⟩
  case round =>
    obtain ⟨i, av, cv, gs, rfl, rfl, hi, HM⟩ := hrel
    by_cases hlt : i < 9
    case neg =>
      have hge : ¬ (i : Int) < 9 := by omega
      obtain rfl : i = 9 := by omega
      have HB6a : Hid (Bx w cx cz wr) := HB5.out.on HM.out.1.bel
      have k0 := HB6a.out.k0
      have k1 := HB6a.out.k1
      obtain ⟨b, rfl, hrow⟩ := HM.out.1.rowAt (i := 0) (by omega)
      clear hrow
      have hrt := rthings_c S cx cz (some ⟨b1, 0, none⟩) (some ⟨b2, 0, none⟩) cp1 cp2 (flatN high) (flatN band) wr hS (far_pair hf.1) (far_pair hf.2) (HL5.out.1.on HM.out.1.bel).rows (HL5.out.2.on HM.out.1.bel).rows HoH.out.1 HoH.out.2
      go_wp2_with fail
      refine hrt.mono ?_
      clear hrt k0 k1
      rintro _ w6 ⟨hb6, hl6, tv, rfl, hO6⟩
      have HB6 : Hid (Bx w cx cz w6) := HB6a.out.on hb6
      have HM6 : Hid (MeetI w5 (nineC S cx cz high band) 9 (some ⟨b, 0, none⟩) cv gs u15 (allT S cx cz high band 9) w6) := HM.out.1.on hb6
      have HO6 : Hid (OwnT w6 wr.heap.size tv (things S cx cz (flatN high) (flatN band))) := hO6
      have Hokl : Hid (∀ t ∈ things S cx cz (flatN high) (flatN band), OkT t) := fun t ht => things_ok (far_pair hf.1) (far_pair hf.2) HoH.out.1 ht
      have Hoka : Hid (∀ t ∈ allT S cx cz high band 9, OkT t) := allT_ok hf.1 hf.2 HoH.out.1
      have Hfk : Hid (∀ i, (nineC S cx cz high band i).length = 32768 ∧ Kinds (nineC S cx cz high band i)) := fun i => ⟨buildN_len _ _ _ _ _ _, build_kinds zero_kinds⟩
      have Hmt : Hid (∀ t ∈ things S cx cz (flatN high) (flatN band), ∀ (D K : Nat) (want : Int), D < 9 → K < 32768 → clm t (dX cx D * 16 + (K : Int) % 16) ((K : Int) / 256) (dZ cz D * 16 + (K : Int) / 16 % 16) 0 = some want →
          ∃ u ∈ allT S cx cz high band 9, clm u (dX cx D * 16 + (K : Int) % 16) ((K : Int) / 256) (dZ cz D * 16 + (K : Int) / 16 % 16) 0 = some ((nineC S cx cz high band D).getD K 0)) := fun t ht D K want hD hK hc => by
        obtain ⟨u, hu, he⟩ := meets ht hK hc
        exact ⟨u, allT_mem hD hu, he⟩
      have hal : (allT S cx cz high band 9).length ≤ 2700 := HM.out.2
      clear hb6 hO6 HM HB6a HL5 HB5 HoH
      generalize wr.heap.size = lb at *
      generalize things S cx cz (flatN high) (flatN band) = l at *
      generalize allT S cx cz high band 9 = al at *
      generalize nineC S cx cz high band = f at *
      obtain ⟨ta, tc, rfl, _⟩ := HO6.out
      obtain ⟨aa, ac, rfl, _⟩ := HM6.out.all
      go_wp2
      refine meet_things _ w w5 w6 cx cz hf l al f gs b cv _ lb _ _ _ HB6 HM6 HO6 Hokl Hoka Hfk Hmt hal (by omega) (fun c a d v w' h => by cases d <;> exact h) ?_
      intro z8 z21 z22 z23 z24 z25 z26 z27 z28 z29 z30 z31 z32 z120 z121 z122 z123 z124 z125 z126 z127 z128 z129 z130 z131 z132 z133 z134 z135 z136 z137 z138 z139 z140 z141 z142 z143 z144 z145 z146 z147 z148 z149 z150 z151 z152 z153 z154 z155 z156 z157 z158 z159 z160 z161 z162 z163 z164 z165 z166 z167 z168 z169 z170 z171 z172 z173 z174 z175 z176 z177 z178 z179 z180 z181 z182 z183 z184 z185 z186 z187 z188 z189 z190 z191 z192 z193 z194 z195 z196 z197 z198 z199 z200 z201 z202 z203 z204 z205 z206 z207 z208 z209 z210 z211 z212 z213 z214 z215 z216 z217 z218 z219 z220 z221 z222 z223 z224 z225 z226 z227 z228 z229 z230 z231 z232 z233 z234 z235 z236 z237 z238 z239 z240 z241 z242 z243 z244 z245 z246 z247 z248 z249 z250 z251 z252 z253 z254 W' hW'
      have HR : Hid (Below w.heap.size w W') := (HB6.out.on hW').bel
      clear HM6 HO6 Hokl Hoka Hfk Hmt HB6 hW'
      go_wp2
      go_ret
      exact ⟨rfl, HR.out⟩
    have hlt' : (i : Int) < 9 := by omega
    have t1 : Int.tmod (i : Int) 3 = (i : Int) % 3 := Int.tmod_eq_emod_of_nonneg (by omega)
    have t2 : Int.tdiv (i : Int) 3 = (i : Int) / 3 := Int.tdiv_eq_ediv_of_nonneg (by omega)
    have r1 : 0 ≤ (i : Int) % 3 ∧ (i : Int) % 3 ≤ 2 := by omega
    have r2 : 0 ≤ (i : Int) / 3 ∧ (i : Int) / 3 ≤ 2 := by omega
    have Hf : Hid (nineC S cx cz high band i = buildN S (cx + (i : Int) % 3 - 1) (cz + (i : Int) / 3 - 1) (flatN high) (flatN band) (List.replicate 32768 0) ∧ allT S cx cz high band (i + 1) = allT S cx cz high band i ++ things S (cx + (i : Int) % 3 - 1) (cz + (i : Int) / 3 - 1) (flatN high) (flatN band)) := ⟨rfl, rfl⟩
    generalize (i : Int) % 3 = R3 at *
    generalize (i : Int) / 3 = Q3 at *
    obtain ⟨r10, r11⟩ := r1
    obtain ⟨r20, r21⟩ := r2
    obtain ⟨cx0, cx1⟩ := hf.1
    obtain ⟨cz0, cz1⟩ := hf.2
    obtain ⟨DX, hDX⟩ : ∃ v : Int, cx + R3 - 1 = v := ⟨_, rfl⟩
    obtain ⟨DZ, hDZ⟩ : ∃ v : Int, cz + Q3 - 1 = v := ⟨_, rfl⟩
    rw [hDX, hDZ] at Hf
    have HFd : Hid (Far 1073741825 DX ∧ Far 1073741825 DZ ∧ (-1073741825 ≤ DX ∧ DX ≤ 1073741825) ∧ -1073741825 ≤ DZ ∧ DZ ≤ 1073741825) := by show _ ∧ _; unfold Far; omega
    have k0 := (HB5.out.on HM.out.1.bel).k0
    have k1 := (HB5.out.on HM.out.1.bel).k1
    obtain ⟨wq, hwq⟩ : ∃ wq, wq = wr := ⟨_, rfl⟩
    subst hwq
    have hba : Below wq.heap.size wq (wq.alloc (.cells #[.int .i64 DX, .int .i64 DZ] 31)) := (Below.refl _ _).alloc (Nat.le_refl _) _
    have HD : Hid ((wq.alloc (.cells #[.int .i64 DX, .int .i64 DZ] 31)).heap[wq.heap.size]? = some (.cells #[.int .i64 DX, .int .i64 DZ] 31 (0, 0))) := heap_alloc_new wq _
    have HMa : Hid (MeetI w5 (nineC S cx cz high band) i av cv gs u15 (allT S cx cz high band i) (wq.alloc (.cells #[.int .i64 DX, .int .i64 DZ] 31))) := HM.out.1.on hba
    have hlen : (allT S cx cz high band i).length ≤ 300 * i := HM.out.2
    clear hba HM
    have HZ : Hid ((List.replicate 32768 (0 : Int)).length = 32768 ∧ Kinds (List.replicate 32768 (0 : Int)) ∧ ∀ v : World, Calls Try.prog 9 #[] v fun e w' => ∃ g, e = .returned (.pointer (some ⟨g, 0, none⟩)) ∧ Below v.heap.size v w' ∧ Blk w' g 74 (List.replicate 32768 0)) := ⟨List.length_replicate, zero_kinds, fun v => (new_c v).mono (by
      rintro _ w' ⟨rfl, rfl⟩
      exact ⟨_, rfl, (Below.refl _ _).alloc (Nat.le_refl _) _, Blk.new v 74 _⟩)⟩
    generalize List.replicate 32768 (0 : Int) = Z at *
    generalize allT S cx cz high band i = al at *
    go_wp2_with fail
    clear k0 k1
    generalize wq.alloc (.cells #[.int .i64 DX, .int .i64 DZ] 31) = wa at *
    generalize wq.heap.size = db at *
    refine region_L (fun w' => Below wa.heap.size wa w') 11 (by kernel_rfl) ?_
    have hHeld : Below wa.heap.size wa wa.drew := (Below.refl _ _).drew
    generalize wa.drew = va at *
    have hne : Nonempty (Sub (fun w' => Below wa.heap.size wa w')) := ⟨⟨_, hHeld⟩⟩
    have e0 : ∀ s : Sub (fun w' => Below wa.heap.size wa w'), s.w.cell? ⟨db, 0, none⟩ = some (.int .i64 DX) := fun s => cell_below ((cell_of_row wa db 0 _ 31 (0, 0) HD.out).trans rfl) s.ok
    have e1 : ∀ s : Sub (fun w' => Below wa.heap.size wa w'), s.w.cell? ⟨db, 1, none⟩ = some (.int .i64 DZ) := fun s => cell_below ((cell_of_row wa db 1 _ 31 (0, 0) HD.out).trans rfl) s.ok
    refine take_L (i := 0) rfl (by kernel_rfl) (by kernel_rfl) (by kernel_rfl) (by kernel_rfl) (fun _ _ _ _ h => h) (by exact hHeld) (fun K hK => ?_)
    go_simp
    refine hK _ ?_
    clear hK K
    refine take_L (i := 1) rfl (by kernel_rfl) (by kernel_rfl) (by kernel_rfl) (by kernel_rfl) (fun _ _ _ _ h => h) (by exact hHeld) (fun K hK => ?_)
    go_simp
    refine hK _ ?_
    clear hK K
    refine take_L (i := 3) rfl (by kernel_rfl) (by kernel_rfl) (by kernel_rfl) (by kernel_rfl) (fun _ _ _ _ h => h) (by exact hHeld) (fun K hK => ?_)
    go_simp
    refine hK _ ?_
    clear hK K
    refine take_L (i := 4) rfl (by kernel_rfl) (by kernel_rfl) (by kernel_rfl) (by kernel_rfl) (fun _ _ _ _ h => h) (by exact hHeld) (fun K hK => ?_)
    go_simp
    refine hK _ ?_
    clear hK K
    refine one_L (i := 2) (by kernel_rfl) rfl (fun K hK => ?_)
    go_simp
    refine (HZ.out.2.2 va).mono ?_
    rintro _ w7 ⟨xg, rfl, hb7, hX7⟩
    replace hHeld : Below wa.heap.size wa w7 := hHeld.trans (hb7.mono hHeld.size)
    refine hK.out _ _ (fun _ => hHeld) ?_
    clear hK K hb7
    have hL7 := HL5.out.1.on (HMa.out.bel.trans (hHeld.mono HMa.out.bel.size))
    have hL7' := HL5.out.2.on (HMa.out.bel.trans (hHeld.mono HMa.out.bel.size))
    have hap := J.apply_ S DX DZ xg Z (some ⟨b1, 0, none⟩) (some ⟨b2, 0, none⟩) cp1 cp2 (flatN high) (flatN band) w7 hS HFd.out.1 HFd.out.2.1 hX7 HZ.out.1 HZ.out.2.1 hL7.rows hL7'.rows HoH.out.1 HoH.out.2 (J.on (J.on HG.out HB5.out.bel) (HMa.out.bel.trans (hHeld.mono HMa.out.bel.size)))
    clear hL7 hL7' hX7
    refine one_L (i := 5) (by kernel_rfl) rfl (fun K hK => ?_)
    go_simp
    refine hap.mono ?_
    clear hap
    rintro _ w8 ⟨hb8, yg, rfl, hY8⟩
    replace hHeld : Below wa.heap.size wa w8 := hHeld.trans (hb8.mono hHeld.size)
    refine hK.out _ _ (fun _ => hHeld) ?_
    clear hK K hb8
    refine take_L (i := 6) rfl (by kernel_rfl) (by kernel_rfl) (by kernel_rfl) (by kernel_rfl) (fun _ _ _ _ h => h) (by exact hHeld) (fun K hK => ?_)
    go_simp
    refine hK _ ?_
    clear hK K
    refine take_L (i := 7) rfl (by kernel_rfl) (by kernel_rfl) (by kernel_rfl) (by kernel_rfl) (fun _ _ _ _ h => h) (by exact hHeld) (fun K hK => ?_)
    go_simp
    refine hK _ ?_
    clear hK K
    refine take_L (i := 8) rfl (by kernel_rfl) (by kernel_rfl) (by kernel_rfl) (by kernel_rfl) (fun _ _ _ _ h => h) (by exact hHeld) (fun K hK => ?_)
    go_simp
    refine hK _ ?_
    clear hK K
    refine take_L (i := 9) rfl (by kernel_rfl) (by kernel_rfl) (by kernel_rfl) (by kernel_rfl) (fun _ _ _ _ h => h) (by exact hHeld) (fun K hK => ?_)
    go_simp
    refine hK _ ?_
    clear hK K
    refine take_L (i := 10) rfl (by kernel_rfl) (by kernel_rfl) (by kernel_rfl) (by kernel_rfl) (fun _ _ _ _ h => h) (by exact hHeld) (fun K hK => ?_)
    go_simp
    refine hK _ ?_
    clear hK K
    refine done_L (by kernel_rfl) ?_ _
    have HM8 : Hid (MeetI w5 (nineC S cx cz high band) i av cv gs u15 al w8) := HMa.out.on hHeld
    have HD8 : Hid (w8.heap[db]? = some (.cells #[.int .i64 DX, .int .i64 DZ] 31 (0, 0))) := (hHeld.block _ (Array.getElem?_eq_some_iff.1 HD.out).1).trans HD.out
    have hFl : (buildN S DX DZ (flatN high) (flatN band) Z).length = 32768 := buildN_len _ _ _ _ _ _
    clear hHeld hne e0 e1 HMa HD va wa
    have Hf1 : Hid (buildN S DX DZ (flatN high) (flatN band) Z = nineC S cx cz high band i) := Hf.out.1.symm
    have Hf2 : Hid (allT S cx cz high band (i + 1) = al ++ things S DX DZ (flatN high) (flatN band)) := Hf.out.2
    clear Hf
    generalize buildN S DX DZ (flatN high) (flatN band) Z = F at *
    have hby := bytes_c yg F w8 hY8 hFl
    clear hFl hY8
    go_wp2_with fail
    refine hby.mono ?_
    clear hby
    rintro _ w9 ⟨rfl, hY9, hb9⟩
    have hba : Below w9.heap.size w9 (w9.alloc (.cells #[slB w8.heap.size] 37)) := (Below.refl _ _).alloc (Nat.le_refl _) _
    have HM10 : Hid (MeetI w5 (nineC S cx cz high band) i av cv gs u15 al (w9.alloc (.cells #[slB w8.heap.size] 37))) := (HM8.out.on hb9).on hba
    have HY10 : Hid (Blk (w9.alloc (.cells #[slB w8.heap.size] 37)) w8.heap.size 5 (nineC S cx cz high band i)) := by show Blk _ _ _ _; rw [← Hf1.out]; exact hY9.below hba hY9.lt
    have HD10 : Hid ((w9.alloc (.cells #[slB w8.heap.size] 37)).heap[db]? = some (.cells #[.int .i64 DX, .int .i64 DZ] 31 (0, 0))) := (hba.block _ (by have := hb9.size; have := (Array.getElem?_eq_some_iff.1 HD8.out).1; omega)).trans ((hb9.block _ (Array.getElem?_eq_some_iff.1 HD8.out).1).trans HD8.out)
    clear hb9 hba hY9 HM8 HD8 Hf1
    generalize w8.heap.size = pg at *
    go_wp2_with (at_builtin; refine wpList_append_bytes2 rfl _ _ rfl HM10.out rfl ⟨w9.heap.size, 0, none⟩ pg rfl HY10.out (cell_new _ _ _) (by omega) HD10.out ?_; intro nb c3 gi w11 hM11 d0 d1 hr; have HM11 : Hid (MeetI w5 (nineC S cx cz high band) (i + 1) (some ⟨nb, 0, none⟩) c3 (gs ++ [pg]) u15 al w11) := hM11; clear hM11 HM10 HY10 HD10)
    have hrt := rthings_c S DX DZ (some ⟨b1, 0, none⟩) (some ⟨b2, 0, none⟩) cp1 cp2 (flatN high) (flatN band) w11 hS HFd.out.2.2.1 HFd.out.2.2.2 (HL5.out.1.on HM11.out.bel).rows (HL5.out.2.on HM11.out.bel).rows HoH.out.1 HoH.out.2
    refine hrt.mono ?_
    clear hrt d0 d1 hr
    rintro _ w12 ⟨hb12, hl12, xv, rfl, hO12⟩
    have HM12 : Hid (MeetI w5 (nineC S cx cz high band) (i + 1) (some ⟨nb, 0, none⟩) c3 (gs ++ [pg]) u15 al w12) := HM11.out.on hb12
    have HO12 : Hid (OwnT w12 w11.heap.size xv (things S DX DZ (flatN high) (flatN band))) := hO12
    clear hb12 hO12 HM11
    generalize things S DX DZ (flatN high) (flatN band) = tl at *
    go_wp2_with (at_builtin; refine wpList_append_things rfl _ _ rfl HM12.out rfl xv _ _ rfl HO12.out (by omega) ?_; intro v13 w13 hM13; have HM13 : Hid (MeetI w5 (nineC S cx cz high band) (i + 1) (some ⟨nb, 0, none⟩) c3 (gs ++ [pg]) v13 (allT S cx cz high band (i + 1)) w13 ∧ (allT S cx cz high band (i + 1)).length ≤ 300 * (i + 1)) := (by show _ ∧ _; rw [Hf2.out]; exact ⟨hM13, by rw [List.length_append]; omega⟩); clear hM13 HM12 HO12)
    exact ⟨⟨i + 1, _, c3, _, by simp, rfl, by omega, HM13⟩, by simp [intOf]; omega⟩
end Go.Proofs.Ytbdjgaagafnfaaa