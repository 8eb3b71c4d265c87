/-
  The landed build: the features of one sort, gone over one by one.
-/
import Derived.Test.YtbdjgaagafnfaaaPfea
import Derived.Test.YtbdjgaagafnfaaaPorg
import Derived.Test.YtbdjgaagafnfaaaPsit
set_option maxRecDepth 20000
namespace Go.Proofs.Ytbdjgaagafnfaaa
open C G Go.RowKit Go.Shelf

/-- A feature that may be. -/
structure OF where
  f : Feat
  ok : f.Ok
def rowF (f : Int → List Feat) (lo : Int) : Nat → List Feat
  | 0 => []
  | n + 1 => rowF f lo n ++ f (lo + (n : Int))
def sortF (S : Nat) (cx cz : Int) (hs bs : List (List Int)) (s : Nat) : List Feat :=
  rowF (fun oz => rowF (fun ox => (featO S s cx cz hs bs ox oz).toList) (lo s cx) (many s cx)) (lo s cz) (many s cz)
theorem scA_is {s : Nat} (h : s < 3) : ∃ x0 x1 x3 x4 x5, scA s = #[x0, x1, .int .i64 (side s), x3, x4, x5] := by
  have h3 : s = 0 ∨ s = 1 ∨ s = 2 := by omega
  rcases h3 with rfl | rfl | rfl
  · exact ⟨_, _, _, _, _, rfl⟩
  · exact ⟨_, _, _, _, _, rfl⟩
  · exact ⟨_, _, _, _, _, rfl⟩
theorem rows_kc {p : Nat → Prop} {ws w W : World} {a : Option Addr} {ls : List (List Int)} (h : Rows2 ws a ls) (hb : Below ws.heap.size ws w) (hk : KC p w W) (hp : ∀ k, p k → ws.heap.size ≤ k) : Rows2 W a ls := by
  have cell : ∀ (q : Addr) (v : Value), ws.cell? q = some v → W.cell? q = some v := fun q v hv => by
    have hlt : q.block < ws.heap.size := by
      simp only [World.cell?] at hv
      rcases e : ws.heap[q.block]? with _ | o
      · simp [e] at hv
      · exact (Array.getElem?_eq_some_iff.1 e).1
    have hbl := hb.block q.block hlt
    simp only [World.cell?] at hv ⊢
    rcases e : ws.heap[q.block]? with _ | o
    · simp [e] at hv
    · rw [e] at hbl hv
      cases o with
      | cells cs t fr =>
        rw [hk.same _ _ _ _ (fun hq => by have := hp _ hq; omega) hbl]
        exact hv
      | _ => simp at hv
  exact ⟨fun i hi => by
    obtain ⟨b, o, ai, ci, e, hc, hI⟩ := h.row i hi
    refine ⟨b, o, ai, ci, e, cell _ _ hc, ?_⟩
    exact ⟨hI.len, fun k hk => by
      obtain ⟨b2, o2, e2, h2⟩ := hI.cells k hk
      exact ⟨b2, o2, e2, cell _ _ h2⟩⟩⟩
theorem lo_far {s : Nat} {c : Int} (hc : Far 1073741825 c) (j : Nat) (hj : j < many s c) : Far 1099511627776 (lo s c + (j : Int)) := by
  unfold Far many lo at *
  rcases side_cases s with e | e | e <;> rw [e] at hj ⊢ <;> omega
theorem orgs_le (s : Nat) (c : Int) : many s c ≤ 100 := by
  unfold many
  rcases side_cases s with e | e | e <;> rw [e] <;> omega
theorem KA.cell {N g j : Nat} {A B : World} {v : Value} (h : KA N A B) (hg : N ≤ g) (hc : A.cell? ⟨g, j, none⟩ = some v) : B.cell? ⟨g, j, none⟩ = some v := by
  simp only [World.cell?] at hc ⊢
  rcases e : A.heap[g]? with _ | o
  · simp [e] at hc
  · rw [h.same g o hg e]; rw [e] at hc; exact hc
section
variable (p : Nat → Prop) (ws : World) (S s : Nat) (cx cz : Int) (a a' : Option Addr) (c c' : Nat) (hs bs : List (List Int))
/-- What the rounds hold. -/
def SrtI (J : List OF → World → Prop) (N : Nat) (w Wz : World) (fs : List Feat) (W : World) : Prop := ∃ pre : List OF, pre.map OF.f = fs ∧ J pre W ∧ KC p w W ∧ KA N Wz W
set_option maxRecDepth 100000 in
set_option maxHeartbeats 4000000 in
theorem sort_gives (w0 w : World) (bl bc bd : Nat) (h3 : s < 3) (hS : S < 18446744073709551616) (hcx : Far 1073741825 cx) (hcz : Far 1073741825 cz) (hp : ∀ k, p k → ws.heap.size ≤ k) (hws : Below ws.heap.size ws w0) (hk0 : KC p w0 w) (hH : Rows2 ws a hs) (hB : Rows2 ws a' bs) (oH : okG 128 hs) (oB : okG 4 bs)
    (hl : w.heap[bl]? = some (.cells (landA (cx * 16) (cz * 16) a a' c c') 65 (0, 0))) (pl : ¬ p bl) (hc : w.heap[bc]? = some (.cells (scA s) 91 (0, 0))) (pc : ¬ p bc) (hd : w.heap[bd]? = some (.cells #[.int .u64 (S : Int)] 29 (0, 0))) (pd : ¬ p bd) :
    Gives2 p 7 6 Try.prog 59 #[] #[.pointer (some ⟨bl, 0, none⟩), .pointer (some ⟨bc, 0, none⟩), .pointer (some ⟨bd, 0, none⟩)] (fun x : OF => #[x.f.val]) (fun xs => xs.map OF.f = sortF S cx cz hs bs s) w := by
  intro l J W hwW hJ hY hJ0
  obtain ⟨Post, hPost⟩ : ∃ Post : Ending → World → Prop, Post = fun e W' => (∃ v, e = .returned v) ∧ ∃ xs : List OF, xs.map OF.f = sortF S cx cz hs bs s ∧ J xs W' := ⟨_, rfl⟩
  rw [← hPost]
  have HP : Hid (∀ v (xs : List OF) W', xs.map OF.f = sortF S cx cz hs bs s → J xs W' → Post (.returned v) W') := fun v xs W' h1 h2 => by rw [hPost]; exact ⟨⟨_, rfl⟩, xs, h1, h2⟩
  clear hPost
  have HJ : Hid (OwnFrom W.heap.size J) := hJ
  have HY : Hid (∀ pre (x : OF) W1, J pre W1 → YieldAt Fence.wide 6 Try.prog l #[x.f.val] W1 fun e W' => e = .returned (.bool true) ∧ J (pre ++ [x]) W' ∧ KA W.heap.size W1 W' ∧ KC p W1 W') := hY
  clear hJ hY
  obtain ⟨x0, x1, x3, x4, x5, hA⟩ := scA_is h3
  have HFe : Hid (∀ (j i : Nat) (W1 : World), j < many s cx → i < many s cz → KC p w W1 → Calls Try.prog 61 #[.agg #[.int .i64 (cx * 16), .int .i64 0, .int .i64 (cz * 16), .slice a 9 c, .slice a' 9 c'], .int .u64 S, .agg #[x0, x1, .int .i64 (side s), x3, x4, x5], .int .i64 (lo s cx + (j : Int)), .int .i64 (lo s cz + (i : Int))] W1 fun e w' => FeatSay (featO S s cx cz hs bs (lo s cx + (j : Int)) (lo s cz + (i : Int))) e ∧ Below W1.heap.size W1 w') := fun j i W1 hj hi hk => by
    rw [← hA]
    exact feature_c S s cx cz _ _ a a' c c' hs bs W1 h3 hS (lo_far hcx j hj) (lo_far hcz i hi) hcx hcz (rows_kc hH hws (hk0.trans hk) hp) (rows_kc hB hws (hk0.trans hk) hp) oH oB
  have Hok : Hid (∀ ox oz f, featO S s cx cz hs bs ox oz = some f → f.Ok) := fun ox oz f h => (feat_ok h3 oH h).1
  have Hox := fun w => origins_c s cx w hcx
  have Hoz := fun w => origins_c s cz w hcz
  rw [hA] at hc
  have HW : Hid (∀ W1, KC p w W1 → W1.heap[bl]? = some (.cells #[.int .i64 (cx * 16), .int .i64 0, .int .i64 (cz * 16), .slice a 9 c, .slice a' 9 c'] 65 (0, 0)) ∧ W1.heap[bc]? = some (.cells #[x0, x1, .int .i64 (side s), x3, x4, x5] 91 (0, 0)) ∧ W1.heap[bd]? = some (.cells #[.int .u64 (S : Int)] 29 (0, 0))) := fun W1 hk =>
    ⟨hk.same _ _ _ _ pl hl, hk.same _ _ _ _ pc hc, hk.same _ _ _ _ pd hd⟩
  have HkW : Hid (KC p w W) := KC.below hwW
  have Hsrt : Hid (sortF S cx cz hs bs s = rowF (fun oz => rowF (fun ox => (featO S s cx cz hs bs ox oz).toList) (lo s cx) (many s cx)) (lo s cz) (many s cz)) := rfl
  clear hA hl hc hd hwW hS hcx hcz hp hws hk0 hH hB oH oB pl pc pd h3
  generalize hSO : sortF S cx cz hs bs s = SO at *
  clear hSO
  generalize cx * 16 = X at *
  generalize cz * 16 = Z at *
  generalize side s = SD at *
  generalize hMX : many s cx = MX at *
  generalize hMZ : many s cz = MZ at *
  generalize hLX : lo s cx = LX at *
  generalize hLZ : lo s cz = LZ at *
  have HoxS : Hid (∀ w e w', OrgSay w s cx e w' → Below w.heap.size w w' ∧ ∃ g cap, e = .returned (.slice (some ⟨g, 0, none⟩) MX cap) ∧ w.heap.size ≤ g ∧ ∀ j, j < MX → w'.cell? ⟨g, j, none⟩ = some (.int .i64 (LX + (j : Int)))) := fun w e w' h => by unfold OrgSay at h; rw [hMX, hLX] at h; exact h
  have HozS : Hid (∀ w e w', OrgSay w s cz e w' → Below w.heap.size w w' ∧ ∃ g cap, e = .returned (.slice (some ⟨g, 0, none⟩) MZ cap) ∧ w.heap.size ≤ g ∧ ∀ j, j < MZ → w'.cell? ⟨g, j, none⟩ = some (.int .i64 (LZ + (j : Int)))) := fun w e w' h => by unfold OrgSay at h; rw [hMZ, hLZ] at h; exact h
  have HLE : Hid (MX ≤ 100 ∧ MZ ≤ 100) := ⟨hMX ▸ orgs_le s cx, hMZ ▸ orgs_le s cz⟩
  clear hMX hMZ hLX hLZ
  have b0 := HW.out W HkW.out
  have z2 : W.cell? ⟨bl, 2, none⟩ = some (.int .i64 Z) := (cell_of_row W _ 2 _ 65 (0, 0) b0.1).trans rfl
  have s2 : W.cell? ⟨bc, 2, none⟩ = some (.int .i64 SD) := (cell_of_row W _ 2 _ 91 (0, 0) b0.2.1).trans rfl
  clear b0
  refine callsIn_of_wp Try.func59 rfl trivial ?_ rfl
  simp only [Try.ntmps59, List.size_toArray, List.length_cons, List.length_nil, Nat.reduceAdd, Nat.reduceSub, Array.replicate_succ, Array.replicate_zero, List.push_toArray, List.append_toArray, List.nil_append, List.cons_append]
  gi_wp2_with (fail)
  refine ⟨trivial, (callsIn_wide.2 (Hoz _)).mono ?_⟩
  clear Hoz
  intro e Wz hz
  obtain ⟨hbz, gz, pz, rfl, hgz, hcz⟩ := HozS.out _ _ _ hz
  have HgZ : Hid (W.heap.size ≤ gz) := hgz
  clear hgz
  have HcZ : Hid (∀ j, j < MZ → Wz.cell? ⟨gz, j, none⟩ = some (.int .i64 (LZ + (j : Int)))) := hcz
  have HI0 : Hid (SrtI p J W.heap.size w Wz [] Wz) := ⟨[], rfl, HJ.out _ W Wz none hJ0 (below_grow hbz) (fun r h => by cases h), HkW.out.trans (KC.below hbz), KA.refl _ _⟩
  have HzW : Hid (W.heap.size ≤ Wz.heap.size) := hbz.size
  have hlz : (MZ : Int) ≤ 9223372036854775807 := by have := HLE.out.2; omega
  clear hcz hz hbz z2 s2 hJ0
  gi_wp2
  gi_loopw [18] (fun v wr => ∃ L : Nat, v = .int .i64 (L : Int) ∧ L ≤ MZ ∧ Hid (SrtI p J W.heap.size w Wz (rowF (fun oz => rowF (fun ox => (featO S s cx cz hs bs ox oz).toList) LX MX) LZ L) wr)) (fun v _ => MZ - (intOf v).toNat)
  case atStart => exact ⟨0, rfl, by omega, HI0.out⟩
  case round =>
    clear HI0
    obtain ⟨L, rfl, hL, HI⟩ := hrel
    by_cases hlt : L < MZ
    case neg =>
      obtain rfl : L = MZ := by omega
      have hlt' : ¬ (L : Int) < (L : Int) := by omega
      obtain ⟨pre, hpre, hj, _, _⟩ := HI.out
      have R := fun v => HP.out v pre wr (hpre.trans Hsrt.out.symm) hj
      clear HI HP hpre hj HFe Hok Hox HW HkW Hsrt HoxS HozS HcZ HzW HY HJ
      gi_wp2
      go_end0
      exact R _
    have hlt' : (L : Int) < (MZ : Int) := by omega
    obtain ⟨pre, hpre, hj, hkc, hka⟩ := HI.out
    have zc : wr.cell? ⟨gz, L, none⟩ = some (.int .i64 (LZ + (L : Int))) := KA.cell hka HgZ.out (HcZ.out L hlt)
    have b1 := HW.out wr hkc
    have x0' : wr.cell? ⟨bl, 0, none⟩ = some (.int .i64 X) := (cell_of_row wr _ 0 _ 65 (0, 0) b1.1).trans rfl
    have s2 : wr.cell? ⟨bc, 2, none⟩ = some (.int .i64 SD) := (cell_of_row wr _ 2 _ 91 (0, 0) b1.2.1).trans rfl
    have HI1 : Hid (SrtI p J W.heap.size w Wz (rowF (fun oz => rowF (fun ox => (featO S s cx cz hs bs ox oz).toList) LX MX) LZ L) wr) := HI.out
    clear HI hpre hj hkc hka b1
    gi_wp2_with (fail)
    refine ⟨trivial, (callsIn_wide.2 (Hox _)).mono ?_⟩
    intro e Wx hx
    obtain ⟨hbx, gx, px, rfl, hgx, hcx⟩ := HoxS.out _ _ _ hx
    obtain ⟨FS, hFS⟩ : ∃ FS, FS = rowF (fun oz => rowF (fun ox => (featO S s cx cz hs bs ox oz).toList) LX MX) LZ L := ⟨_, rfl⟩
    rw [← hFS] at HI1
    have HFS : Hid (rowF (fun oz => rowF (fun ox => (featO S s cx cz hs bs ox oz).toList) LX MX) LZ (L + 1) = FS ++ rowF (fun ox => (featO S s cx cz hs bs ox (LZ + (L : Int))).toList) LX MX) := by rw [hFS]; rfl
    have HcX : Hid (W.heap.size ≤ gx ∧ ∀ j, j < MX → Wx.cell? ⟨gx, j, none⟩ = some (.int .i64 (LX + (j : Int)))) := by
      obtain ⟨_, _, _, _, hka⟩ := HI1.out
      exact ⟨Nat.le_trans HzW.out (Nat.le_trans hka.size hgx), hcx⟩
    have HIx : Hid (SrtI p J W.heap.size w Wz (FS ++ []) Wx ∧ KA W.heap.size Wx Wx) := by
      obtain ⟨pre, hpre, hj, hkc, hka⟩ := HI1.out
      rw [List.append_nil]
      exact ⟨⟨pre, hpre, HJ.out _ wr Wx none hj (below_grow hbx) (fun r h => by cases h), hkc.trans (KC.below hbx), hka.trans (KA.below hbx)⟩, KA.refl _ _⟩
    have hlx : (MX : Int) ≤ 9223372036854775807 := by have := HLE.out.1; omega
    clear zc x0' s2 hx hcx hgx hFS HI1 hbx HP
    gi_wp2
    gi_loopw [29] (fun v wr2 => ∃ I : Nat, v = .int .i64 (I : Int) ∧ I ≤ MX ∧ Hid (SrtI p J W.heap.size w Wz (FS ++ rowF (fun ox => (featO S s cx cz hs bs ox (LZ + (L : Int))).toList) LX I) wr2 ∧ KA W.heap.size Wx wr2)) (fun v _ => MX - (intOf v).toNat)
    case atStart => exact ⟨0, rfl, by omega, HIx.out⟩
    case round =>
      clear HIx
      obtain ⟨I, rfl, hI, HI⟩ := hrel
      by_cases hil : I < MX
      case neg =>
        obtain rfl : I = MX := by omega
        have hil' : ¬ (I : Int) < (I : Int) := by omega
        have HR : Hid (SrtI p J W.heap.size w Wz (rowF (fun oz => rowF (fun ox => (featO S s cx cz hs bs ox oz).toList) LX I) LZ (L + 1)) wr) := by rw [HFS.out]; exact HI.out.1
        have wL : IntKind.i64.wrap ((L : Int) + 1) = ((L + 1 : Nat) : Int) := by rw [IntKind.wrap_i64]; omega
        clear HI HFe Hok Hox HW HkW Hsrt HoxS HozS HcZ HzW HY HJ HFS HcX
        gi_wp2
        exact ⟨⟨L + 1, rfl, by omega, HR⟩, by simp [intOf]; omega⟩
      have hil' : (I : Int) < (MX : Int) := by omega
      obtain ⟨⟨pre, hpre, hj, hkc, hka⟩, hkx⟩ := HI.out
      have xc : wr.cell? ⟨gx, I, none⟩ = some (.int .i64 (LX + (I : Int))) := KA.cell hkx HcX.out.1 (HcX.out.2 I hil)
      have b1 := HW.out wr hkc
      have l0 : wr.cell? ⟨bl, 0, none⟩ = some (.int .i64 X) := (cell_of_row wr _ 0 _ 65 (0, 0) b1.1).trans rfl
      have l1 : wr.cell? ⟨bl, 1, none⟩ = some (.int .i64 0) := (cell_of_row wr _ 1 _ 65 (0, 0) b1.1).trans rfl
      have l2 : wr.cell? ⟨bl, 2, none⟩ = some (.int .i64 Z) := (cell_of_row wr _ 2 _ 65 (0, 0) b1.1).trans rfl
      have l3 : wr.cell? ⟨bl, 3, none⟩ = some (.slice a 9 c) := (cell_of_row wr _ 3 _ 65 (0, 0) b1.1).trans rfl
      have l4 : wr.cell? ⟨bl, 4, none⟩ = some (.slice a' 9 c') := (cell_of_row wr _ 4 _ 65 (0, 0) b1.1).trans rfl
      have q0 : wr.cell? ⟨bc, 0, none⟩ = some x0 := (cell_of_row wr _ 0 _ 91 (0, 0) b1.2.1).trans rfl
      have q1 : wr.cell? ⟨bc, 1, none⟩ = some x1 := (cell_of_row wr _ 1 _ 91 (0, 0) b1.2.1).trans rfl
      have q2 : wr.cell? ⟨bc, 2, none⟩ = some (.int .i64 SD) := (cell_of_row wr _ 2 _ 91 (0, 0) b1.2.1).trans rfl
      have q3 : wr.cell? ⟨bc, 3, none⟩ = some x3 := (cell_of_row wr _ 3 _ 91 (0, 0) b1.2.1).trans rfl
      have q4 : wr.cell? ⟨bc, 4, none⟩ = some x4 := (cell_of_row wr _ 4 _ 91 (0, 0) b1.2.1).trans rfl
      have q5 : wr.cell? ⟨bc, 5, none⟩ = some x5 := (cell_of_row wr _ 5 _ 91 (0, 0) b1.2.1).trans rfl
      have d0 : wr.cell? ⟨bd, 0, none⟩ = some (.int .u64 (S : Int)) := (cell_of_row wr _ 0 _ 29 (0, 0) b1.2.2).trans rfl
      have hfe := HFe.out I L wr hil hlt hkc
      have HQ : Hid (pre.map OF.f = FS ++ rowF (fun ox => (featO S s cx cz hs bs ox (LZ + (L : Int))).toList) LX I ∧ J pre wr ∧ KC p w wr ∧ KA W.heap.size Wz wr ∧ KA W.heap.size Wx wr) := ⟨hpre, hj, hkc, hka, hkx⟩
      have Hrow : Hid (rowF (fun ox => (featO S s cx cz hs bs ox (LZ + (L : Int))).toList) LX (I + 1) = rowF (fun ox => (featO S s cx cz hs bs ox (LZ + (L : Int))).toList) LX I ++ (featO S s cx cz hs bs (LX + (I : Int)) (LZ + (L : Int))).toList) := rfl
      have Hok1 : Hid (∀ f, featO S s cx cz hs bs (LX + (I : Int)) (LZ + (L : Int)) = some f → f.Ok) := fun f h => Hok.out _ _ f h
      have wI : IntKind.i64.wrap ((I : Int) + 1) = ((I + 1 : Nat) : Int) := by rw [IntKind.wrap_i64]; have := HLE.out.1; omega
      clear HI hpre hj hkc hka hkx b1 HFe Hok Hox HW HkW Hsrt HoxS HozS
      gi_wp2_with (fail)
      refine ⟨trivial, (callsIn_wide.2 hfe).mono ?_⟩
      clear hfe xc l0 l1 l2 l3 l4 q0 q1 q2 q3 q4 q5 d0
      rintro _ w2 ⟨⟨v, rfl, hv⟩, hb2⟩
      have HQ2 : Hid (pre.map OF.f = FS ++ rowF (fun ox => (featO S s cx cz hs bs ox (LZ + (L : Int))).toList) LX I ∧ J pre w2 ∧ KC p w w2 ∧ KA W.heap.size Wz w2 ∧ KA W.heap.size Wx w2) :=
        ⟨HQ.out.1, HJ.out _ wr w2 none HQ.out.2.1 (below_grow hb2) (fun r h => by cases h), HQ.out.2.2.1.trans (KC.below hb2), HQ.out.2.2.2.1.trans (KA.below hb2), HQ.out.2.2.2.2.trans (KA.below hb2)⟩
      clear HQ hb2
      generalize featO S s cx cz hs bs (LX + (I : Int)) (LZ + (L : Int)) = O at *
      cases O with
      | none =>
        have HE : Hid (SrtI p J W.heap.size w Wz (FS ++ rowF (fun ox => (featO S s cx cz hs bs ox (LZ + (L : Int))).toList) LX (I + 1)) w2 ∧ KA W.heap.size Wx w2) := by
          rw [Hrow.out]
          exact ⟨⟨pre, by rw [HQ2.out.1]; simp, HQ2.out.2.1, HQ2.out.2.2.1, HQ2.out.2.2.2.1⟩, HQ2.out.2.2.2.2⟩
        rw [show (none : Option Feat).isSome = false from rfl]
        clear hv HQ2 Hrow Hok1 HY HJ
        gi_wp2
        refine ⟨fun _ h => (by cases h), ?_⟩
        gi_wp2
        exact ⟨⟨I + 1, rfl, by omega, HE⟩, by simp [intOf]; omega⟩
      | some f =>
        have hvf := hv f rfl
        subst hvf
        rw [show (some f).isSome = true from rfl]
        obtain ⟨fn, tmps, assign, body, hy, hR⟩ := HY.out pre ⟨f, Hok1.out f rfl⟩ w2 HQ2.out.2.1
        have HQ3 := HQ2
        clear hv HQ2
        gi_wp2
        refine hR.mono ?_
        clear hy hR
        rintro _ w3 ⟨rfl, hj3, hka3, hkc3⟩
        have HE : Hid (SrtI p J W.heap.size w Wz (FS ++ rowF (fun ox => (featO S s cx cz hs bs ox (LZ + (L : Int))).toList) LX (I + 1)) w3 ∧ KA W.heap.size Wx w3) := by
          rw [Hrow.out]
          exact ⟨⟨pre ++ [⟨f, Hok1.out f rfl⟩], by rw [List.map_append, HQ3.out.1]; simp, hj3, HQ3.out.2.2.1.trans hkc3, HQ3.out.2.2.2.1.trans hka3⟩, HQ3.out.2.2.2.2.trans hka3⟩
        clear hj3 hka3 hkc3 HQ3 Hrow Hok1 HY HJ
        gi_wp2
        exact ⟨⟨I + 1, rfl, by omega, HE⟩, by simp [intOf]; omega⟩
end
end Go.Proofs.Ytbdjgaagafnfaaa
