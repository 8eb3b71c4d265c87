/-
  DiskReads: the walk.
-/
import Derived.Test.YtfpcfgfpebdplaaHeldn
import Derived.Test.YtfpcfgfpebdplaaFilw
namespace Go.Proofs.Ytfpcfgfpebdplaa
open Go.RowKit Go.Maps

/-- Thirty-two noughts. -/
def noughts : List Int := List.replicate 32 0
/-- A call writes that block. -/
def hits (f : Fl) (i : Int) (o : Oc) : Bool := decide (o.f = f) && decide (o.i = i) && decide (o.n = 32)
/-- One of the first j calls does. -/
def hadTo (l : List Oc) (f : Fl) (i : Int) (j : Nat) : Bool := (l.take j).any (hits f i)
theorem hadTo_next {l : List Oc} {f : Fl} {i : Int} {j : Nat} {o : Oc} (h : l[j]? = some o) : hadTo l f i (j + 1) = (hadTo l f i j || hits f i o) := by
  unfold hadTo
  rw [List.take_add_one, h]
  simp
/-- What the writes so far have made. -/
structure RInv (l : List Oc) (f : Fl) (i : Int) (S : St) (j : Nat) : Prop where
  few : Few S j
  out : S.out = false
  armed : S.armed = false
  had : hadTo l f i j = false → Go.Proofs.Ytfpcfgfpebdplaa.has S.l f i = none
theorem RInv.start (l : List Oc) (f : Fl) (i : Int) : RInv l f i St.new 0 := ⟨Few.new, rfl, rfl, fun _ => rfl⟩
theorem RInv.next {l : List Oc} {f : Fl} {i : Int} {S : St} {j : Nat} {o : Oc} (h : RInv l f i S j) (ho : l[j]? = some o) (hb : o.b.length = o.n) : RInv l f i (S.write o.f o.i o.b).2 (j + 1) := by
  obtain ⟨h1, h2, _, _⟩ := write_on h.out h.armed o.f o.i o.b
  refine ⟨h.few.write _ _ _, h1, h2, fun hh => ?_⟩
  rw [hadTo_next ho, Bool.or_eq_false_iff] at hh
  refine has_write _ _ _ _ _ (fun e => ?_) (h.had hh.1)
  have hx := hh.2
  unfold hits at hx
  rw [decide_eq_true e.1, decide_eq_true e.2.1, decide_eq_true (hb ▸ e.2.2)] at hx
  cases hx
theorem exec_eqi {o : Oper} {ρ : Operand → Value} {x y : Operand} (a b : Int) (w : World) (ho : o.op = .binOp .eql 3 x y 3) (h1 : ρ x = .int .i64 a) (h2 : ρ y = .int .i64 b) :
    (execOp ρ o).run Try.prog w = .ok (.value (.bool (decide (a = b)))) w := by
  unfold execOp
  simp only [ho, h1, h2]
  by_cases h : a = b
  · subst h
    go_simp
  · go_simp
theorem exec_eqiv {o : Oper} {ρ : Operand → Value} {x y : Operand} (a b : Int) (v : Bool) (hv : decide (a = b) = v) (w : World) (ho : o.op = .binOp .eql 3 x y 3) (h1 : ρ x = .int .i64 a) (h2 : ρ y = .int .i64 b) :
    (execOp ρ o).run Try.prog w = .ok (.value (.bool v)) w := by
  subst hv
  exact exec_eqi a b w ho h1 h2
theorem exec_eql30v {o : Oper} {ρ : Operand → Value} {x y : Operand} (f g : Fl) (v : Bool) (hv : decide (f = g) = v) (w : World) (ho : o.op = .binOp .eql 30 x y 30) (h1 : ρ x = valF f) (h2 : ρ y = valF g) :
    (execOp ρ o).run Try.prog w = .ok (.value (.bool v)) w := by
  subst hv
  exact exec_eql30 f g w ho h1 h2
theorem read_len {R : Int × List Int} {w w' : World} {e : Ending} (h : PReadSay R w e w') : R.2.length = 0 ∨ R.2.length = 32 := by
  rcases h.2 with ⟨h, _⟩ | ⟨p, _, _, _, h, _⟩
  · left; rw [h]; rfl
  · exact Or.inr h
theorem hits_no1 {f g : Fl} {i oi : Int} {ok : Int} {oa : Option Addr} {on oc : Nat} {ob : List Int} (h : g ≠ f) : hits f i ⟨ok, g, oi, oa, on, oc, ob⟩ = false := by unfold hits; simp [h]
theorem hits_no2 {f g : Fl} {i oi : Int} {ok : Int} {oa : Option Addr} {on oc : Nat} {ob : List Int} (h : oi ≠ i) : hits f i ⟨ok, g, oi, oa, on, oc, ob⟩ = false := by unfold hits; simp [h]
theorem hits_yes {f g : Fl} {i oi : Int} {ok : Int} {oa : Option Addr} {on oc : Nat} {ob : List Int} (h : g = f) (h2 : oi = i) : hits f i ⟨ok, g, oi, oa, on, oc, ob⟩ = decide (on = 32) := by unfold hits; simp [h, h2]

set_option maxRecDepth 1000000 in
set_option maxHeartbeats 8000000 in
theorem diskReads_walk (a : Option Addr) (len cap : Nat) (f : Fl) (ix : Int) (l : List Oc) (W : World) (hl : l.length = len) (hO : Ops W a l) (hf : I64F f) (hix : I64 ix) :
    Calls Try.prog 6 #[.slice a len cap, valF f, .int .i64 ix] W fun e W' => e = .returned (.bool true) ∧ Below W.heap.size W W' := by
  obtain ⟨f1, f2, f3⟩ := f
  obtain ⟨Post, hPost⟩ : ∃ Post : Ending → World → Prop, Post = fun e w' => e = .returned (.bool true) ∧ Below W.heap.size W w' := ⟨_, rfl⟩
  rw [← hPost]
  have HP : Hid (∀ w', Below W.heap.size W w' → Post (.returned (.bool true)) w') := fun w' h => by rw [hPost]; exact ⟨rfl, h⟩
  clear hPost
  have HOps : Hid (Ops W a l) := hO
  have Hl : Hid (l.length = len) := hl
  have Hf : Hid (I64F (f1, f2, f3)) := hf
  obtain ⟨hbx, hax, hsx⟩ := box_in W f1 f2 f3
  have HNx : Hid (Below W.heap.size W (W.alloc (.cells #[.int .i64 f1, .int .i64 f2, .int .i64 f3] 30))) := hbx
  have HAx : Hid (At3 W.heap.size f1 f2 f3 (W.alloc (.cells #[.int .i64 f1, .int .i64 f2, .int .i64 f3] 30))) := hax
  have Hix : Hid (I64 ix) := hix
  clear hO hl hf hbx hax hix
  go_enter Try.func6, Try.ntmps6
  go_upto_region 1 with fail
  generalize W.alloc (.cells #[.int .i64 f1, .int .i64 f2, .int .i64 f3] 30) = wx at *
  go_wp2_with fail
  refine (awake_c wx).mono ?_
  rintro e w0 ⟨rfl, hb0⟩
  have HN0 : Hid (Below W.heap.size W w0) := HNx.out.trans (hb0.mono HNx.out.size)
  have HA0 : Hid (At3 W.heap.size f1 f2 f3 w0) := HAx.out.inside hb0
  have hX0 : W.heap.size < w0.heap.size := Nat.lt_of_lt_of_le hsx hb0.size
  clear hb0 HNx HAx hsx
  go_wp2_with fail
  refine (hnew W.heap.size (fun k => k = W.heap.size) w0 HN0.out.size (fun k hk => hk ▸ hX0)).mono ?_
  rintro e w1 ⟨d, rfl, hD1, hb1⟩
  have HD1 : Hid (Hold W.heap.size (fun k => k = W.heap.size) w1 d St.new) := hD1
  have HN1 : Hid (Below W.heap.size W w1) := HN0.out.trans (hb1.mono HN0.out.size)
  have HA1 : Hid (At3 W.heap.size f1 f2 f3 w1) := HA0.out.inside hb1
  have hX1 : W.heap.size < w1.heap.size := Nat.lt_of_lt_of_le hX0 hb1.size
  clear hb1 hD1 HN0 HA0 hX0
  by_cases hlong : 200 < len
  · have hlen' : (200 : Int) < len := by omega
    have R := HP.out w1 HN1.out
    clear HP HD1 HN1 HA1
    go_wp2
    exact R
  · have hlen' : (len : Int) ≤ 200 := by omega
    go_wp2
    go_loopw [9, 10] (fun v9 v10 wr => ∃ (j : Nat) (S : St), j ≤ len ∧ v10 = .int .i64 (j : Int) ∧ v9 = .int .i64 S.writes ∧ Hid (Hold W.heap.size (fun k => k = W.heap.size) wr d S ∧ RInv l (f1, f2, f3) ix S j) ∧ Hid (At3 W.heap.size f1 f2 f3 wr ∧ W.heap.size < wr.heap.size) ∧ Hid (Below W.heap.size W wr)) (fun _ v10 _ => len - (intOf v10).toNat)
    case atStart => exact ⟨0, St.new, Nat.zero_le _, rfl, rfl, ⟨HD1.out, RInv.start _ _ _⟩, ⟨HA1.out, hX1⟩, HN1.out⟩
    case round =>
      obtain ⟨j, S, hj, rfl, rfl, HS, HAX, HN⟩ := hrel
      have HD : Hid (Hold W.heap.size (fun k => k = W.heap.size) wr d S) := HS.out.1
      have HI : Hid (RInv l (f1, f2, f3) ix S j) := HS.out.2
      have HA : Hid (At3 W.heap.size f1 f2 f3 wr) := HAX.out.1
      have hX : W.heap.size < wr.heap.size := HAX.out.2
      clear HS HAX
      by_cases hlt : j < len
      · have hlt' : (j : Int) < len := by omega
        have hjl : j < l.length := by rw [Hl.out]; exact hlt
        obtain ⟨b, off, rfl, hO⟩ := HOps.out j hjl
        generalize hoe : l[j] = o at hO
        obtain ⟨ok, ⟨g1, g2, g3⟩, oi, oa, on, oc, ob⟩ := o
        have HO : Hid (OpAt W b off j ⟨ok, (g1, g2, g3), oi, oa, on, oc, ob⟩) := hO
        have Hoe : Hid (l[j]? = some ⟨ok, (g1, g2, g3), oi, oa, on, oc, ob⟩) := by show _ = _; rw [List.getElem?_eq_getElem hjl, hoe]
        have Hg : Hid (I64F (g1, g2, g3)) := ⟨hO.bd.2.1, hO.bd.2.2.1, hO.bd.2.2.2⟩
        have Hi : Hid (I64 oi) := hO.bd.1
        have Hbn : Hid (ob.length = on) := hO.by_.n
        clear hO hoe
        have Hfw : Hid (S.writes ≤ 200) := by have := HI.out.few.2.2; show S.writes ≤ 200; omega
        have hfw1 : S.writes ≤ 200 := Hfw.out
        have hfw0 : 0 ≤ S.writes := HI.out.few.2.1
        clear hjl
        go_wp2
        refine region_L (fun w' => Below W.heap.size W w') 17 (by kernel_rfl) ?_
        have HDa : Hid (Hold W.heap.size (fun k => k = W.heap.size) wr.drew d S) := HD.out.drew
        have HNa : Hid (Below W.heap.size W wr.drew) := HN.out.drew
        have HAa : Hid (At3 W.heap.size f1 f2 f3 wr.drew) := HA.out
        have hXa : W.heap.size < wr.drew.heap.size := hX
        clear HN HD HA hX
        generalize wr.drew = va at *
        have hHeld : (fun w' => Below W.heap.size W w') _ := HNa.out
        have hne : Nonempty (Sub (fun w' => Below W.heap.size W w')) := ⟨⟨_, hHeld⟩⟩
        have k1 : ∀ s : Sub (fun w' => Below W.heap.size W w'), s.w.cell? ⟨b, off + j * 6 + 1, none⟩ = some (.int .i64 g1) := fun s => (HO.out.on s.ok).c1
        have k2 : ∀ s : Sub (fun w' => Below W.heap.size W w'), s.w.cell? ⟨b, off + j * 6 + 2, none⟩ = some (.int .i64 g2) := fun s => (HO.out.on s.ok).c2
        have k3 : ∀ s : Sub (fun w' => Below W.heap.size W w'), s.w.cell? ⟨b, off + j * 6 + 3, none⟩ = some (.int .i64 g3) := fun s => (HO.out.on s.ok).c3
        have k4 : ∀ s : Sub (fun w' => Below W.heap.size W w'), s.w.cell? ⟨b, off + j * 6 + 4, none⟩ = some (.int .i64 oi) := fun s => (HO.out.on s.ok).c4
        have k5 : ∀ s : Sub (fun w' => Below W.heap.size W w'), s.w.cell? ⟨b, off + j * 6 + 5, none⟩ = some (.slice oa on oc) := fun s => (HO.out.on s.ok).c5
        refine take_L (i := 0) rfl (by kernel_rfl) (by kernel_rfl) (by kernel_rfl) (by kernel_rfl) (fun _ _ _ _ h => h) (by exact hHeld) (fun K hK => ?_)
        go_simp
        refine hK _ ?_
        clear hK K
        refine take_L (i := 1) rfl (by kernel_rfl) (by kernel_rfl) (by kernel_rfl) (by kernel_rfl) (fun _ _ _ _ h => h) (by exact hHeld) (fun K hK => ?_)
        go_simp
        refine hK _ ?_
        clear hK K
        refine take_L (i := 2) rfl (by kernel_rfl) (by kernel_rfl) (by kernel_rfl) (by kernel_rfl) (fun _ _ _ _ h => h) (by exact hHeld) (fun K hK => ?_)
        go_simp
        refine hK _ ?_
        clear hK K
        refine take_L (i := 3) rfl (by kernel_rfl) (by kernel_rfl) (by kernel_rfl) (by kernel_rfl) (fun _ _ _ _ h => h) (by exact hHeld) (fun K hK => ?_)
        go_simp
        refine hK _ ?_
        clear hK K
        refine take_L (i := 4) rfl (by kernel_rfl) (by kernel_rfl) (by kernel_rfl) (by kernel_rfl) (fun _ _ _ _ h => h) (by exact hHeld) (fun K hK => ?_)
        go_simp
        refine hK _ ?_
        clear hK K
        refine take_L (i := 5) rfl (by kernel_rfl) (by kernel_rfl) (by kernel_rfl) (by kernel_rfl) (fun _ _ _ _ h => h) (by exact hHeld) (fun K hK => ?_)
        go_simp
        refine hK _ ?_
        clear hK K
        refine take_L (i := 6) rfl (by kernel_rfl) (by kernel_rfl) (by kernel_rfl) (by kernel_rfl) (fun _ _ _ _ h => h) (by exact hHeld) (fun K hK => ?_)
        go_simp
        refine hK _ ?_
        clear hK K
        refine take_L (i := 7) rfl (by kernel_rfl) (by kernel_rfl) (by kernel_rfl) (by kernel_rfl) (fun _ _ _ _ h => h) (by exact hHeld) (fun K hK => ?_)
        go_simp
        refine hK _ ?_
        clear hK K
        refine take_L (i := 8) rfl (by kernel_rfl) (by kernel_rfl) (by kernel_rfl) (by kernel_rfl) (fun _ _ _ _ h => h) (by exact hHeld) (fun K hK => ?_)
        go_simp
        refine hK _ ?_
        clear hK K
        refine take_L (i := 9) rfl (by kernel_rfl) (by kernel_rfl) (by kernel_rfl) (by kernel_rfl) (fun _ _ _ _ h => h) (by exact hHeld) (fun K hK => ?_)
        go_simp
        refine hK _ ?_
        clear hK K
        refine take_L (i := 10) rfl (by kernel_rfl) (by kernel_rfl) (by kernel_rfl) (by kernel_rfl) (fun _ _ _ _ h => h) (by exact hHeld) (fun K hK => ?_)
        go_simp
        refine hK _ ?_
        clear hK K
        refine take_L (i := 11) rfl (by kernel_rfl) (by kernel_rfl) (by kernel_rfl) (by kernel_rfl) (fun _ _ _ _ h => h) (by exact hHeld) (fun K hK => ?_)
        go_simp
        refine hK _ ?_
        clear hK K
        refine take_L (i := 12) rfl (by kernel_rfl) (by kernel_rfl) (by kernel_rfl) (by kernel_rfl) (fun _ _ _ _ h => h) (by exact hHeld) (fun K hK => ?_)
        go_simp
        refine hK _ ?_
        clear hK K
        refine take_L (i := 13) rfl (by kernel_rfl) (by kernel_rfl) (by kernel_rfl) (by kernel_rfl) (fun _ _ _ _ h => h) (by exact hHeld) (fun K hK => ?_)
        go_simp
        refine hK _ ?_
        clear hK K
        refine take_L (i := 14) rfl (by kernel_rfl) (by kernel_rfl) (by kernel_rfl) (by kernel_rfl) (fun _ _ _ _ h => h) (by exact hHeld) (fun K hK => ?_)
        go_simp
        refine hK _ ?_
        clear hK K
        refine take_L (i := 15) rfl (by kernel_rfl) (by kernel_rfl) (by kernel_rfl) (by kernel_rfl) (fun _ _ _ _ h => h) (by exact hHeld) (fun K hK => ?_)
        go_simp
        refine hK _ ?_
        clear hK K
        refine one_L (i := 16) (by kernel_rfl) rfl (fun K hK => ?_)
        go_simp
        refine (hwrite W.heap.size (fun k => k = W.heap.size) d S g1 g2 g3 oi oa on oc ob Hg.out va HDa.out HNa.out.size (fun k hk => hk ▸ hXa) (HO.out.on HNa.out).by_ (by have := Hfw.out; omega)).mono ?_
        rintro _ w4 ⟨rfl, hD, hk⟩
        have HD : Hid (Hold W.heap.size (fun k => k = W.heap.size) w4 d (S.write (g1, g2, g3) oi ob).2) := hD
        have HN : Hid (Below W.heap.size W w4) := HNa.out.trans (hk.below HNa.out.size)
        have HA : Hid (At3 W.heap.size f1 f2 f3 w4) := HAa.out.kept hk (Or.inr rfl)
        have hX : W.heap.size < w4.heap.size := Nat.lt_of_lt_of_le hXa hk.size
        clear hD hk
        replace hHeld : (fun w' => Below W.heap.size W w') _ := HN.out
        refine hK.out _ _ (fun _ => hHeld) ?_
        clear hK K
        refine one_L (i := 17) (by kernel_rfl) rfl (fun K hK => ?_)
        go_simp
        refine hK.out _ _ (fun h => absurd rfl h) ?_
        clear hK K
        refine done_L (by kernel_rfl) ?_ _
        clear hHeld hne k1 k2 k3 k4 k5 HDa HNa HAa hXa
        obtain ⟨_, _, hz, hw⟩ := write_on HI.out.out HI.out.armed (g1, g2, g3) oi ob
        have HI1 : Hid (RInv l (f1, f2, f3) ix (S.write (g1, g2, g3) oi ob).2 (j + 1)) := HI.out.next Hoe.out Hbn.out
        generalize hR : S.write (g1, g2, g3) oi ob = R at *
        obtain ⟨R1, S'⟩ := R
        simp only at hz hw
        have HD' : Hid (Hold W.heap.size (fun k => k = W.heap.size) w4 d S') := HD.out
        clear HD hR
        by_cases ha : argOk oi ob.length
        · rw [if_pos ha] at hw
          have hR1 : R1 = 0 := hz.2 ha
          subst hR1
          have hww : IntKind.i64.wrap (S.writes + 1) = S.writes + 1 := wrapI (by omega)
          have Hw : Hid (S'.writes = S.writes + 1) := hw
          clear hw hz
          go_wp2
          go_roundw
          case rel => exact ⟨j + 1, S', by omega, by simp, by rw [Hw.out], ⟨HD'.out, HI1.out⟩, ⟨HA.out, hX⟩, HN.out⟩
          case measure => simp [intOf]; omega
        · rw [if_neg ha] at hw
          have hR1 : ¬ R1 = 0 := fun e => ha (hz.1 e)
          have Hw : Hid (S'.writes = S.writes) := by show _ = _; omega
          clear hw hz
          go_wp2
          go_roundw
          case rel => exact ⟨j + 1, S', by omega, by simp, by rw [Hw.out], ⟨HD'.out, HI1.out⟩, ⟨HA.out, hX⟩, HN.out⟩
          case measure => simp [intOf]; omega
      · obtain rfl : j = len := by omega
        have hfw0 : 0 ≤ S.writes := HI.out.few.2.1
        have hfl : S.l.length ≤ 200 := by have := HI.out.few.1; omega
        have HI5 : Hid (RInv l (f1, f2, f3) ix S j) := HI
        have HD5 : Hid (Hold W.heap.size (fun k => k = W.heap.size) wr d S) := HD
        have HA5 : Hid (At3 W.heap.size f1 f2 f3 wr) := HA
        have HN5 : Hid (Below W.heap.size W wr) := HN
        clear HI HD HA HN hX HD1 HN1 HA1
        go_wp2
        go_loopw [12, 13] (fun v12 v13 wr => ∃ (i : Nat), i ≤ j ∧ v13 = .int .i64 (i : Int) ∧ v12 = .bool (hadTo l (f1, f2, f3) ix i) ∧ Hid (Hold W.heap.size (fun k => k = W.heap.size) wr d S ∧ At3 W.heap.size f1 f2 f3 wr) ∧ Hid (Below W.heap.size W wr)) (fun _ v13 _ => j - (intOf v13).toNat)
        case atStart => exact ⟨0, Nat.zero_le _, rfl, by simp [hadTo], ⟨HD5.out, HA5.out⟩, HN5.out⟩
        case round =>
          obtain ⟨i, hi, rfl, rfl, HS, HN⟩ := hrel
          by_cases hlti : i < j
          · have hlti' : (i : Int) < j := by omega
            have hjl : i < l.length := by rw [Hl.out]; exact hlti
            obtain ⟨b, off, rfl, hO⟩ := HOps.out i hjl
            generalize hoe : l[i] = o at hO
            obtain ⟨ok, ⟨g1, g2, g3⟩, oi, oa, on, oc, ob⟩ := o
            have HO : Hid (OpAt W b off i ⟨ok, (g1, g2, g3), oi, oa, on, oc, ob⟩) := hO
            have Hoe : Hid (l[i]? = some ⟨ok, (g1, g2, g3), oi, oa, on, oc, ob⟩) := by show _ = _; rw [List.getElem?_eq_getElem hjl, hoe]
            have Hg : Hid (I64F (g1, g2, g3)) := ⟨hO.bd.2.1, hO.bd.2.2.1, hO.bd.2.2.2⟩
            have Hi : Hid (I64 oi) := hO.bd.1
            have Hbn : Hid (ob.length = on) := hO.by_.n
            clear hO hoe
            clear hjl
            have Hn : Hid (hadTo l (f1, f2, f3) ix (i + 1) = (hadTo l (f1, f2, f3) ix i || hits (f1, f2, f3) ix ⟨ok, (g1, g2, g3), oi, oa, on, oc, ob⟩)) := hadTo_next Hoe.out
            obtain ⟨T, hT⟩ : ∃ T, T = hadTo l (f1, f2, f3) ix i := ⟨_, rfl⟩
            have HT : Hid (T = hadTo l (f1, f2, f3) ix i) := hT
            rw [← hT]
            clear hT
            go_wp2
            rcases T with _ | _
            · by_cases hF : ((g1, g2, g3) : Fl) = (f1, f2, f3)
              · by_cases hIx : oi = ix
                · have Hv : Hid (Value.bool (decide (on = 32)) = .bool (hadTo l (f1, f2, f3) ix (i + 1))) := by show _ = _; rw [Hn.out, ← HT.out, Bool.false_or, hits_yes hF hIx]
                  have d30 : decide (((g1, g2, g3) : Fl) = (f1, f2, f3)) = true := decide_eq_true hF
                  have d3 : decide (oi = ix) = true := decide_eq_true hIx
                  obtain ⟨V, hV⟩ : ∃ V, V = decide (on = 32) := ⟨_, rfl⟩
                  rw [← hV] at Hv
                  have D30 : Hid (decide (((g1, g2, g3) : Fl) = (f1, f2, f3)) = true) := d30
                  have D3 : Hid (decide (oi = ix) = true) := d3
                  have D4 : Hid (decide ((on : Int) = 32) = V) := by show _ = _; rw [hV]; exact decide_eq_decide.2 (by omega)
                  clear hF hIx d30 d3 hV
                  refine region_L (fun w' => Below W.heap.size W w' ∧ At3 W.heap.size f1 f2 f3 w') 28 (by kernel_rfl) ?_
                  have HSa : Hid (Hold W.heap.size (fun k => k = W.heap.size) wr.drew d S ∧ At3 W.heap.size f1 f2 f3 wr.drew) := ⟨HS.out.1.drew, HS.out.2⟩
                  have HNa : Hid (Below W.heap.size W wr.drew) := HN.out.drew
                  clear HS HN
                  generalize wr.drew = w7 at *
                  have hHeld : (fun w' => Below W.heap.size W w' ∧ At3 W.heap.size f1 f2 f3 w') _ := ⟨HNa.out, HSa.out.2⟩
                  have hne : Nonempty (Sub (fun w' => Below W.heap.size W w' ∧ At3 W.heap.size f1 f2 f3 w')) := ⟨⟨_, hHeld⟩⟩
                  have k1 : ∀ s : Sub (fun w' => Below W.heap.size W w' ∧ At3 W.heap.size f1 f2 f3 w'), s.w.cell? ⟨b, off + i * 6 + 1, none⟩ = some (.int .i64 g1) := fun s => (HO.out.on s.ok.1).c1
                  have k2 : ∀ s : Sub (fun w' => Below W.heap.size W w' ∧ At3 W.heap.size f1 f2 f3 w'), s.w.cell? ⟨b, off + i * 6 + 2, none⟩ = some (.int .i64 g2) := fun s => (HO.out.on s.ok.1).c2
                  have k3 : ∀ s : Sub (fun w' => Below W.heap.size W w' ∧ At3 W.heap.size f1 f2 f3 w'), s.w.cell? ⟨b, off + i * 6 + 3, none⟩ = some (.int .i64 g3) := fun s => (HO.out.on s.ok.1).c3
                  have k4 : ∀ s : Sub (fun w' => Below W.heap.size W w' ∧ At3 W.heap.size f1 f2 f3 w'), s.w.cell? ⟨b, off + i * 6 + 4, none⟩ = some (.int .i64 oi) := fun s => (HO.out.on s.ok.1).c4
                  have k5 : ∀ s : Sub (fun w' => Below W.heap.size W w' ∧ At3 W.heap.size f1 f2 f3 w'), s.w.cell? ⟨b, off + i * 6 + 5, none⟩ = some (.slice oa on oc) := fun s => (HO.out.on s.ok.1).c5
                  have q0 : ∀ s : Sub (fun w' => Below W.heap.size W w' ∧ At3 W.heap.size f1 f2 f3 w'), s.w.cell? ⟨W.heap.size, 0, none⟩ = some (.int .i64 f1) := fun s => s.ok.2.1
                  have q1 : ∀ s : Sub (fun w' => Below W.heap.size W w' ∧ At3 W.heap.size f1 f2 f3 w'), s.w.cell? ⟨W.heap.size, 1, none⟩ = some (.int .i64 f2) := fun s => s.ok.2.2.1
                  have q2 : ∀ s : Sub (fun w' => Below W.heap.size W w' ∧ At3 W.heap.size f1 f2 f3 w'), s.w.cell? ⟨W.heap.size, 2, none⟩ = some (.int .i64 f3) := fun s => s.ok.2.2.2
                  refine take_L (i := 0) rfl (by kernel_rfl) (by kernel_rfl) (by kernel_rfl) (by kernel_rfl) (fun _ _ _ _ h => h) (by exact hHeld) (fun K hK => ?_)
                  go_simp
                  refine hK _ ?_
                  clear hK K
                  refine take_L (i := 1) rfl (by kernel_rfl) (by kernel_rfl) (by kernel_rfl) (by kernel_rfl) (fun _ _ _ _ h => h) (by exact hHeld) (fun K hK => ?_)
                  go_simp
                  refine hK _ ?_
                  clear hK K
                  refine take_L (i := 2) rfl (by kernel_rfl) (by kernel_rfl) (by kernel_rfl) (by kernel_rfl) (fun _ _ _ _ h => h) (by exact hHeld) (fun K hK => ?_)
                  go_simp
                  refine hK _ ?_
                  clear hK K
                  refine take_L (i := 3) rfl (by kernel_rfl) (by kernel_rfl) (by kernel_rfl) (by kernel_rfl) (fun _ _ _ _ h => h) (by exact hHeld) (fun K hK => ?_)
                  go_simp
                  refine hK _ ?_
                  clear hK K
                  refine take_L (i := 4) rfl (by kernel_rfl) (by kernel_rfl) (by kernel_rfl) (by kernel_rfl) (fun _ _ _ _ h => h) (by exact hHeld) (fun K hK => ?_)
                  go_simp
                  refine hK _ ?_
                  clear hK K
                  refine take_L (i := 5) rfl (by kernel_rfl) (by kernel_rfl) (by kernel_rfl) (by kernel_rfl) (fun _ _ _ _ h => h) (by exact hHeld) (fun K hK => ?_)
                  go_simp
                  refine hK _ ?_
                  clear hK K
                  refine take_L (i := 6) rfl (by kernel_rfl) (by kernel_rfl) (by kernel_rfl) (by kernel_rfl) (fun _ _ _ _ h => h) (by exact hHeld) (fun K hK => ?_)
                  go_simp
                  refine hK _ ?_
                  clear hK K
                  refine take_L (i := 7) rfl (by kernel_rfl) (by kernel_rfl) (by kernel_rfl) (by kernel_rfl) (fun _ _ _ _ h => h) (by exact hHeld) (fun K hK => ?_)
                  go_simp
                  refine hK _ ?_
                  clear hK K
                  refine give_L (i := 8) (.bool true) rfl (by kernel_rfl) (by kernel_rfl) (by kernel_rfl) (by kernel_rfl) (fun _ _ _ _ h => h) (by exact hHeld) (by rfl) (fun s => exec_eql30v (g1, g2, g3) (f1, f2, f3) _ D30.out s.w rfl rfl rfl) ?_
                  refine take_L (i := 9) rfl (by kernel_rfl) (by kernel_rfl) (by kernel_rfl) (by kernel_rfl) (fun _ _ _ _ h => h) (by exact hHeld) (fun K hK => ?_)
                  go_simp
                  refine hK _ ?_
                  clear hK K
                  refine take_L (i := 10) rfl (by kernel_rfl) (by kernel_rfl) (by kernel_rfl) (by kernel_rfl) (fun _ _ _ _ h => h) (by exact hHeld) (fun K hK => ?_)
                  go_simp
                  refine hK _ ?_
                  clear hK K
                  refine take_L (i := 11) rfl (by kernel_rfl) (by kernel_rfl) (by kernel_rfl) (by kernel_rfl) (fun _ _ _ _ h => h) (by exact hHeld) (fun K hK => ?_)
                  go_simp
                  refine hK _ ?_
                  clear hK K
                  refine take_L (i := 12) rfl (by kernel_rfl) (by kernel_rfl) (by kernel_rfl) (by kernel_rfl) (fun _ _ _ _ h => h) (by exact hHeld) (fun K hK => ?_)
                  go_simp
                  refine hK _ ?_
                  clear hK K
                  refine take_L (i := 13) rfl (by kernel_rfl) (by kernel_rfl) (by kernel_rfl) (by kernel_rfl) (fun _ _ _ _ h => h) (by exact hHeld) (fun K hK => ?_)
                  go_simp
                  refine hK _ ?_
                  clear hK K
                  refine take_L (i := 14) rfl (by kernel_rfl) (by kernel_rfl) (by kernel_rfl) (by kernel_rfl) (fun _ _ _ _ h => h) (by exact hHeld) (fun K hK => ?_)
                  go_simp
                  refine hK _ ?_
                  clear hK K
                  refine take_L (i := 15) rfl (by kernel_rfl) (by kernel_rfl) (by kernel_rfl) (by kernel_rfl) (fun _ _ _ _ h => h) (by exact hHeld) (fun K hK => ?_)
                  go_simp
                  refine hK _ ?_
                  clear hK K
                  refine give_L (i := 16) (.bool true) rfl (by kernel_rfl) (by kernel_rfl) (by kernel_rfl) (by kernel_rfl) (fun _ _ _ _ h => h) (by exact hHeld) (by rfl) (fun s => exec_eqiv oi ix _ D3.out s.w rfl rfl rfl) ?_
                  refine take_L (i := 17) rfl (by kernel_rfl) (by kernel_rfl) (by kernel_rfl) (by kernel_rfl) (fun _ _ _ _ h => h) (by exact hHeld) (fun K hK => ?_)
                  go_simp
                  refine hK _ ?_
                  clear hK K
                  refine take_L (i := 18) rfl (by kernel_rfl) (by kernel_rfl) (by kernel_rfl) (by kernel_rfl) (fun _ _ _ _ h => h) (by exact hHeld) (fun K hK => ?_)
                  go_simp
                  refine hK _ ?_
                  clear hK K
                  refine take_L (i := 19) rfl (by kernel_rfl) (by kernel_rfl) (by kernel_rfl) (by kernel_rfl) (fun _ _ _ _ h => h) (by exact hHeld) (fun K hK => ?_)
                  go_simp
                  refine hK _ ?_
                  clear hK K
                  refine take_L (i := 20) rfl (by kernel_rfl) (by kernel_rfl) (by kernel_rfl) (by kernel_rfl) (fun _ _ _ _ h => h) (by exact hHeld) (fun K hK => ?_)
                  go_simp
                  refine hK _ ?_
                  clear hK K
                  refine take_L (i := 21) rfl (by kernel_rfl) (by kernel_rfl) (by kernel_rfl) (by kernel_rfl) (fun _ _ _ _ h => h) (by exact hHeld) (fun K hK => ?_)
                  go_simp
                  refine hK _ ?_
                  clear hK K
                  refine take_L (i := 22) rfl (by kernel_rfl) (by kernel_rfl) (by kernel_rfl) (by kernel_rfl) (fun _ _ _ _ h => h) (by exact hHeld) (fun K hK => ?_)
                  go_simp
                  refine hK _ ?_
                  clear hK K
                  refine take_L (i := 23) rfl (by kernel_rfl) (by kernel_rfl) (by kernel_rfl) (by kernel_rfl) (fun _ _ _ _ h => h) (by exact hHeld) (fun K hK => ?_)
                  go_simp
                  refine hK _ ?_
                  clear hK K
                  refine take_L (i := 24) rfl (by kernel_rfl) (by kernel_rfl) (by kernel_rfl) (by kernel_rfl) (fun _ _ _ _ h => h) (by exact hHeld) (fun K hK => ?_)
                  go_simp
                  refine hK _ ?_
                  clear hK K
                  refine give_L (i := 25) (.bool V) rfl (by kernel_rfl) (by kernel_rfl) (by kernel_rfl) (by kernel_rfl) (fun _ _ _ _ h => h) (by exact hHeld) (by rfl) (fun s => exec_eqiv (on : Int) 32 _ D4.out s.w rfl rfl rfl) ?_
                  refine take_L (i := 26) rfl (by kernel_rfl) (by kernel_rfl) (by kernel_rfl) (by kernel_rfl) (fun _ _ _ _ h => h) (by exact hHeld) (fun K hK => ?_)
                  go_simp
                  refine hK _ ?_
                  clear hK K
                  refine take_L (i := 27) rfl (by kernel_rfl) (by kernel_rfl) (by kernel_rfl) (by kernel_rfl) (fun _ _ _ _ h => h) (by exact hHeld) (fun K hK => ?_)
                  go_simp
                  refine hK _ ?_
                  clear hK K
                  refine one_L (i := 28) (by kernel_rfl) rfl (fun K hK => ?_)
                  go_simp
                  refine hK.out _ _ (fun h => absurd rfl h) ?_
                  clear hK K
                  refine done_L (by kernel_rfl) ?_ _
                  clear hHeld hne k1 k2 k3 k4 k5 q0 q1 q2
                  go_wp2
                  go_roundw
                  case rel => exact ⟨i + 1, by omega, by simp, Hv.out, HSa.out, HNa.out⟩
                  case measure => simp [intOf]; omega
                · have Hv : Hid (Value.bool false = .bool (hadTo l (f1, f2, f3) ix (i + 1))) := by show _ = _; rw [Hn.out, ← HT.out, Bool.false_or, hits_no2 hIx]
                  have D30 : Hid (decide (((g1, g2, g3) : Fl) = (f1, f2, f3)) = true) := decide_eq_true hF
                  have D3 : Hid (decide (oi = ix) = false) := decide_eq_false hIx
                  clear hF hIx
                  refine region_L (fun w' => Below W.heap.size W w' ∧ At3 W.heap.size f1 f2 f3 w') 28 (by kernel_rfl) ?_
                  have HSa : Hid (Hold W.heap.size (fun k => k = W.heap.size) wr.drew d S ∧ At3 W.heap.size f1 f2 f3 wr.drew) := ⟨HS.out.1.drew, HS.out.2⟩
                  have HNa : Hid (Below W.heap.size W wr.drew) := HN.out.drew
                  clear HS HN
                  generalize wr.drew = w7 at *
                  have hHeld : (fun w' => Below W.heap.size W w' ∧ At3 W.heap.size f1 f2 f3 w') _ := ⟨HNa.out, HSa.out.2⟩
                  have hne : Nonempty (Sub (fun w' => Below W.heap.size W w' ∧ At3 W.heap.size f1 f2 f3 w')) := ⟨⟨_, hHeld⟩⟩
                  have k1 : ∀ s : Sub (fun w' => Below W.heap.size W w' ∧ At3 W.heap.size f1 f2 f3 w'), s.w.cell? ⟨b, off + i * 6 + 1, none⟩ = some (.int .i64 g1) := fun s => (HO.out.on s.ok.1).c1
                  have k2 : ∀ s : Sub (fun w' => Below W.heap.size W w' ∧ At3 W.heap.size f1 f2 f3 w'), s.w.cell? ⟨b, off + i * 6 + 2, none⟩ = some (.int .i64 g2) := fun s => (HO.out.on s.ok.1).c2
                  have k3 : ∀ s : Sub (fun w' => Below W.heap.size W w' ∧ At3 W.heap.size f1 f2 f3 w'), s.w.cell? ⟨b, off + i * 6 + 3, none⟩ = some (.int .i64 g3) := fun s => (HO.out.on s.ok.1).c3
                  have k4 : ∀ s : Sub (fun w' => Below W.heap.size W w' ∧ At3 W.heap.size f1 f2 f3 w'), s.w.cell? ⟨b, off + i * 6 + 4, none⟩ = some (.int .i64 oi) := fun s => (HO.out.on s.ok.1).c4
                  have k5 : ∀ s : Sub (fun w' => Below W.heap.size W w' ∧ At3 W.heap.size f1 f2 f3 w'), s.w.cell? ⟨b, off + i * 6 + 5, none⟩ = some (.slice oa on oc) := fun s => (HO.out.on s.ok.1).c5
                  have q0 : ∀ s : Sub (fun w' => Below W.heap.size W w' ∧ At3 W.heap.size f1 f2 f3 w'), s.w.cell? ⟨W.heap.size, 0, none⟩ = some (.int .i64 f1) := fun s => s.ok.2.1
                  have q1 : ∀ s : Sub (fun w' => Below W.heap.size W w' ∧ At3 W.heap.size f1 f2 f3 w'), s.w.cell? ⟨W.heap.size, 1, none⟩ = some (.int .i64 f2) := fun s => s.ok.2.2.1
                  have q2 : ∀ s : Sub (fun w' => Below W.heap.size W w' ∧ At3 W.heap.size f1 f2 f3 w'), s.w.cell? ⟨W.heap.size, 2, none⟩ = some (.int .i64 f3) := fun s => s.ok.2.2.2
                  refine take_L (i := 0) rfl (by kernel_rfl) (by kernel_rfl) (by kernel_rfl) (by kernel_rfl) (fun _ _ _ _ h => h) (by exact hHeld) (fun K hK => ?_)
                  go_simp
                  refine hK _ ?_
                  clear hK K
                  refine take_L (i := 1) rfl (by kernel_rfl) (by kernel_rfl) (by kernel_rfl) (by kernel_rfl) (fun _ _ _ _ h => h) (by exact hHeld) (fun K hK => ?_)
                  go_simp
                  refine hK _ ?_
                  clear hK K
                  refine take_L (i := 2) rfl (by kernel_rfl) (by kernel_rfl) (by kernel_rfl) (by kernel_rfl) (fun _ _ _ _ h => h) (by exact hHeld) (fun K hK => ?_)
                  go_simp
                  refine hK _ ?_
                  clear hK K
                  refine take_L (i := 3) rfl (by kernel_rfl) (by kernel_rfl) (by kernel_rfl) (by kernel_rfl) (fun _ _ _ _ h => h) (by exact hHeld) (fun K hK => ?_)
                  go_simp
                  refine hK _ ?_
                  clear hK K
                  refine take_L (i := 4) rfl (by kernel_rfl) (by kernel_rfl) (by kernel_rfl) (by kernel_rfl) (fun _ _ _ _ h => h) (by exact hHeld) (fun K hK => ?_)
                  go_simp
                  refine hK _ ?_
                  clear hK K
                  refine take_L (i := 5) rfl (by kernel_rfl) (by kernel_rfl) (by kernel_rfl) (by kernel_rfl) (fun _ _ _ _ h => h) (by exact hHeld) (fun K hK => ?_)
                  go_simp
                  refine hK _ ?_
                  clear hK K
                  refine take_L (i := 6) rfl (by kernel_rfl) (by kernel_rfl) (by kernel_rfl) (by kernel_rfl) (fun _ _ _ _ h => h) (by exact hHeld) (fun K hK => ?_)
                  go_simp
                  refine hK _ ?_
                  clear hK K
                  refine take_L (i := 7) rfl (by kernel_rfl) (by kernel_rfl) (by kernel_rfl) (by kernel_rfl) (fun _ _ _ _ h => h) (by exact hHeld) (fun K hK => ?_)
                  go_simp
                  refine hK _ ?_
                  clear hK K
                  refine give_L (i := 8) (.bool true) rfl (by kernel_rfl) (by kernel_rfl) (by kernel_rfl) (by kernel_rfl) (fun _ _ _ _ h => h) (by exact hHeld) (by rfl) (fun s => exec_eql30v (g1, g2, g3) (f1, f2, f3) _ D30.out s.w rfl rfl rfl) ?_
                  refine take_L (i := 9) rfl (by kernel_rfl) (by kernel_rfl) (by kernel_rfl) (by kernel_rfl) (fun _ _ _ _ h => h) (by exact hHeld) (fun K hK => ?_)
                  go_simp
                  refine hK _ ?_
                  clear hK K
                  refine take_L (i := 10) rfl (by kernel_rfl) (by kernel_rfl) (by kernel_rfl) (by kernel_rfl) (fun _ _ _ _ h => h) (by exact hHeld) (fun K hK => ?_)
                  go_simp
                  refine hK _ ?_
                  clear hK K
                  refine take_L (i := 11) rfl (by kernel_rfl) (by kernel_rfl) (by kernel_rfl) (by kernel_rfl) (fun _ _ _ _ h => h) (by exact hHeld) (fun K hK => ?_)
                  go_simp
                  refine hK _ ?_
                  clear hK K
                  refine take_L (i := 12) rfl (by kernel_rfl) (by kernel_rfl) (by kernel_rfl) (by kernel_rfl) (fun _ _ _ _ h => h) (by exact hHeld) (fun K hK => ?_)
                  go_simp
                  refine hK _ ?_
                  clear hK K
                  refine take_L (i := 13) rfl (by kernel_rfl) (by kernel_rfl) (by kernel_rfl) (by kernel_rfl) (fun _ _ _ _ h => h) (by exact hHeld) (fun K hK => ?_)
                  go_simp
                  refine hK _ ?_
                  clear hK K
                  refine take_L (i := 14) rfl (by kernel_rfl) (by kernel_rfl) (by kernel_rfl) (by kernel_rfl) (fun _ _ _ _ h => h) (by exact hHeld) (fun K hK => ?_)
                  go_simp
                  refine hK _ ?_
                  clear hK K
                  refine take_L (i := 15) rfl (by kernel_rfl) (by kernel_rfl) (by kernel_rfl) (by kernel_rfl) (fun _ _ _ _ h => h) (by exact hHeld) (fun K hK => ?_)
                  go_simp
                  refine hK _ ?_
                  clear hK K
                  refine give_L (i := 16) (.bool false) rfl (by kernel_rfl) (by kernel_rfl) (by kernel_rfl) (by kernel_rfl) (fun _ _ _ _ h => h) (by exact hHeld) (by rfl) (fun s => exec_eqiv oi ix _ D3.out s.w rfl rfl rfl) ?_
                  refine take_L (i := 17) rfl (by kernel_rfl) (by kernel_rfl) (by kernel_rfl) (by kernel_rfl) (fun _ _ _ _ h => h) (by exact hHeld) (fun K hK => ?_)
                  go_simp
                  refine hK _ ?_
                  clear hK K
                  refine take_L (i := 18) rfl (by kernel_rfl) (by kernel_rfl) (by kernel_rfl) (by kernel_rfl) (fun _ _ _ _ h => h) (by exact hHeld) (fun K hK => ?_)
                  go_simp
                  refine hK _ ?_
                  clear hK K
                  refine take_L (i := 19) rfl (by kernel_rfl) (by kernel_rfl) (by kernel_rfl) (by kernel_rfl) (fun _ _ _ _ h => h) (by exact hHeld) (fun K hK => ?_)
                  go_simp
                  refine hK _ ?_
                  clear hK K
                  refine take_L (i := 20) rfl (by kernel_rfl) (by kernel_rfl) (by kernel_rfl) (by kernel_rfl) (fun _ _ _ _ h => h) (by exact hHeld) (fun K hK => ?_)
                  go_simp
                  refine hK _ ?_
                  clear hK K
                  refine take_L (i := 21) rfl (by kernel_rfl) (by kernel_rfl) (by kernel_rfl) (by kernel_rfl) (fun _ _ _ _ h => h) (by exact hHeld) (fun K hK => ?_)
                  go_simp
                  refine hK _ ?_
                  clear hK K
                  refine take_L (i := 22) rfl (by kernel_rfl) (by kernel_rfl) (by kernel_rfl) (by kernel_rfl) (fun _ _ _ _ h => h) (by exact hHeld) (fun K hK => ?_)
                  go_simp
                  refine hK _ ?_
                  clear hK K
                  refine take_L (i := 23) rfl (by kernel_rfl) (by kernel_rfl) (by kernel_rfl) (by kernel_rfl) (fun _ _ _ _ h => h) (by exact hHeld) (fun K hK => ?_)
                  go_simp
                  refine hK _ ?_
                  clear hK K
                  refine take_L (i := 24) rfl (by kernel_rfl) (by kernel_rfl) (by kernel_rfl) (by kernel_rfl) (fun _ _ _ _ h => h) (by exact hHeld) (fun K hK => ?_)
                  go_simp
                  refine hK _ ?_
                  clear hK K
                  refine take_L (i := 25) rfl (by kernel_rfl) (by kernel_rfl) (by kernel_rfl) (by kernel_rfl) (fun _ _ _ _ h => h) (by exact hHeld) (fun K hK => ?_)
                  go_simp
                  refine hK _ ?_
                  clear hK K
                  refine take_L (i := 26) rfl (by kernel_rfl) (by kernel_rfl) (by kernel_rfl) (by kernel_rfl) (fun _ _ _ _ h => h) (by exact hHeld) (fun K hK => ?_)
                  go_simp
                  refine hK _ ?_
                  clear hK K
                  refine take_L (i := 27) rfl (by kernel_rfl) (by kernel_rfl) (by kernel_rfl) (by kernel_rfl) (fun _ _ _ _ h => h) (by exact hHeld) (fun K hK => ?_)
                  go_simp
                  refine hK _ ?_
                  clear hK K
                  refine one_L (i := 28) (by kernel_rfl) rfl (fun K hK => ?_)
                  go_simp
                  refine hK.out _ _ (fun h => absurd rfl h) ?_
                  clear hK K
                  refine done_L (by kernel_rfl) ?_ _
                  clear hHeld hne k1 k2 k3 k4 k5 q0 q1 q2
                  go_wp2
                  go_roundw
                  case rel => exact ⟨i + 1, by omega, by simp, Hv.out, HSa.out, HNa.out⟩
                  case measure => simp [intOf]; omega
              · have Hv : Hid (Value.bool false = .bool (hadTo l (f1, f2, f3) ix (i + 1))) := by show _ = _; rw [Hn.out, ← HT.out, Bool.false_or, hits_no1 hF]
                have D30 : Hid (decide (((g1, g2, g3) : Fl) = (f1, f2, f3)) = false) := decide_eq_false hF
                clear hF
                refine region_L (fun w' => Below W.heap.size W w' ∧ At3 W.heap.size f1 f2 f3 w') 28 (by kernel_rfl) ?_
                have HSa : Hid (Hold W.heap.size (fun k => k = W.heap.size) wr.drew d S ∧ At3 W.heap.size f1 f2 f3 wr.drew) := ⟨HS.out.1.drew, HS.out.2⟩
                have HNa : Hid (Below W.heap.size W wr.drew) := HN.out.drew
                clear HS HN
                generalize wr.drew = w7 at *
                have hHeld : (fun w' => Below W.heap.size W w' ∧ At3 W.heap.size f1 f2 f3 w') _ := ⟨HNa.out, HSa.out.2⟩
                have hne : Nonempty (Sub (fun w' => Below W.heap.size W w' ∧ At3 W.heap.size f1 f2 f3 w')) := ⟨⟨_, hHeld⟩⟩
                have k1 : ∀ s : Sub (fun w' => Below W.heap.size W w' ∧ At3 W.heap.size f1 f2 f3 w'), s.w.cell? ⟨b, off + i * 6 + 1, none⟩ = some (.int .i64 g1) := fun s => (HO.out.on s.ok.1).c1
                have k2 : ∀ s : Sub (fun w' => Below W.heap.size W w' ∧ At3 W.heap.size f1 f2 f3 w'), s.w.cell? ⟨b, off + i * 6 + 2, none⟩ = some (.int .i64 g2) := fun s => (HO.out.on s.ok.1).c2
                have k3 : ∀ s : Sub (fun w' => Below W.heap.size W w' ∧ At3 W.heap.size f1 f2 f3 w'), s.w.cell? ⟨b, off + i * 6 + 3, none⟩ = some (.int .i64 g3) := fun s => (HO.out.on s.ok.1).c3
                have k4 : ∀ s : Sub (fun w' => Below W.heap.size W w' ∧ At3 W.heap.size f1 f2 f3 w'), s.w.cell? ⟨b, off + i * 6 + 4, none⟩ = some (.int .i64 oi) := fun s => (HO.out.on s.ok.1).c4
                have k5 : ∀ s : Sub (fun w' => Below W.heap.size W w' ∧ At3 W.heap.size f1 f2 f3 w'), s.w.cell? ⟨b, off + i * 6 + 5, none⟩ = some (.slice oa on oc) := fun s => (HO.out.on s.ok.1).c5
                have q0 : ∀ s : Sub (fun w' => Below W.heap.size W w' ∧ At3 W.heap.size f1 f2 f3 w'), s.w.cell? ⟨W.heap.size, 0, none⟩ = some (.int .i64 f1) := fun s => s.ok.2.1
                have q1 : ∀ s : Sub (fun w' => Below W.heap.size W w' ∧ At3 W.heap.size f1 f2 f3 w'), s.w.cell? ⟨W.heap.size, 1, none⟩ = some (.int .i64 f2) := fun s => s.ok.2.2.1
                have q2 : ∀ s : Sub (fun w' => Below W.heap.size W w' ∧ At3 W.heap.size f1 f2 f3 w'), s.w.cell? ⟨W.heap.size, 2, none⟩ = some (.int .i64 f3) := fun s => s.ok.2.2.2
                refine take_L (i := 0) rfl (by kernel_rfl) (by kernel_rfl) (by kernel_rfl) (by kernel_rfl) (fun _ _ _ _ h => h) (by exact hHeld) (fun K hK => ?_)
                go_simp
                refine hK _ ?_
                clear hK K
                refine take_L (i := 1) rfl (by kernel_rfl) (by kernel_rfl) (by kernel_rfl) (by kernel_rfl) (fun _ _ _ _ h => h) (by exact hHeld) (fun K hK => ?_)
                go_simp
                refine hK _ ?_
                clear hK K
                refine take_L (i := 2) rfl (by kernel_rfl) (by kernel_rfl) (by kernel_rfl) (by kernel_rfl) (fun _ _ _ _ h => h) (by exact hHeld) (fun K hK => ?_)
                go_simp
                refine hK _ ?_
                clear hK K
                refine take_L (i := 3) rfl (by kernel_rfl) (by kernel_rfl) (by kernel_rfl) (by kernel_rfl) (fun _ _ _ _ h => h) (by exact hHeld) (fun K hK => ?_)
                go_simp
                refine hK _ ?_
                clear hK K
                refine take_L (i := 4) rfl (by kernel_rfl) (by kernel_rfl) (by kernel_rfl) (by kernel_rfl) (fun _ _ _ _ h => h) (by exact hHeld) (fun K hK => ?_)
                go_simp
                refine hK _ ?_
                clear hK K
                refine take_L (i := 5) rfl (by kernel_rfl) (by kernel_rfl) (by kernel_rfl) (by kernel_rfl) (fun _ _ _ _ h => h) (by exact hHeld) (fun K hK => ?_)
                go_simp
                refine hK _ ?_
                clear hK K
                refine take_L (i := 6) rfl (by kernel_rfl) (by kernel_rfl) (by kernel_rfl) (by kernel_rfl) (fun _ _ _ _ h => h) (by exact hHeld) (fun K hK => ?_)
                go_simp
                refine hK _ ?_
                clear hK K
                refine take_L (i := 7) rfl (by kernel_rfl) (by kernel_rfl) (by kernel_rfl) (by kernel_rfl) (fun _ _ _ _ h => h) (by exact hHeld) (fun K hK => ?_)
                go_simp
                refine hK _ ?_
                clear hK K
                refine give_L (i := 8) (.bool false) rfl (by kernel_rfl) (by kernel_rfl) (by kernel_rfl) (by kernel_rfl) (fun _ _ _ _ h => h) (by exact hHeld) (by rfl) (fun s => exec_eql30v (g1, g2, g3) (f1, f2, f3) _ D30.out s.w rfl rfl rfl) ?_
                refine take_L (i := 9) rfl (by kernel_rfl) (by kernel_rfl) (by kernel_rfl) (by kernel_rfl) (fun _ _ _ _ h => h) (by exact hHeld) (fun K hK => ?_)
                go_simp
                refine hK _ ?_
                clear hK K
                refine take_L (i := 10) rfl (by kernel_rfl) (by kernel_rfl) (by kernel_rfl) (by kernel_rfl) (fun _ _ _ _ h => h) (by exact hHeld) (fun K hK => ?_)
                go_simp
                refine hK _ ?_
                clear hK K
                refine take_L (i := 11) rfl (by kernel_rfl) (by kernel_rfl) (by kernel_rfl) (by kernel_rfl) (fun _ _ _ _ h => h) (by exact hHeld) (fun K hK => ?_)
                go_simp
                refine hK _ ?_
                clear hK K
                refine take_L (i := 12) rfl (by kernel_rfl) (by kernel_rfl) (by kernel_rfl) (by kernel_rfl) (fun _ _ _ _ h => h) (by exact hHeld) (fun K hK => ?_)
                go_simp
                refine hK _ ?_
                clear hK K
                refine take_L (i := 13) rfl (by kernel_rfl) (by kernel_rfl) (by kernel_rfl) (by kernel_rfl) (fun _ _ _ _ h => h) (by exact hHeld) (fun K hK => ?_)
                go_simp
                refine hK _ ?_
                clear hK K
                refine take_L (i := 14) rfl (by kernel_rfl) (by kernel_rfl) (by kernel_rfl) (by kernel_rfl) (fun _ _ _ _ h => h) (by exact hHeld) (fun K hK => ?_)
                go_simp
                refine hK _ ?_
                clear hK K
                refine take_L (i := 15) rfl (by kernel_rfl) (by kernel_rfl) (by kernel_rfl) (by kernel_rfl) (fun _ _ _ _ h => h) (by exact hHeld) (fun K hK => ?_)
                go_simp
                refine hK _ ?_
                clear hK K
                refine take_L (i := 16) rfl (by kernel_rfl) (by kernel_rfl) (by kernel_rfl) (by kernel_rfl) (fun _ _ _ _ h => h) (by exact hHeld) (fun K hK => ?_)
                go_simp
                refine hK _ ?_
                clear hK K
                refine take_L (i := 17) rfl (by kernel_rfl) (by kernel_rfl) (by kernel_rfl) (by kernel_rfl) (fun _ _ _ _ h => h) (by exact hHeld) (fun K hK => ?_)
                go_simp
                refine hK _ ?_
                clear hK K
                refine take_L (i := 18) rfl (by kernel_rfl) (by kernel_rfl) (by kernel_rfl) (by kernel_rfl) (fun _ _ _ _ h => h) (by exact hHeld) (fun K hK => ?_)
                go_simp
                refine hK _ ?_
                clear hK K
                refine take_L (i := 19) rfl (by kernel_rfl) (by kernel_rfl) (by kernel_rfl) (by kernel_rfl) (fun _ _ _ _ h => h) (by exact hHeld) (fun K hK => ?_)
                go_simp
                refine hK _ ?_
                clear hK K
                refine take_L (i := 20) rfl (by kernel_rfl) (by kernel_rfl) (by kernel_rfl) (by kernel_rfl) (fun _ _ _ _ h => h) (by exact hHeld) (fun K hK => ?_)
                go_simp
                refine hK _ ?_
                clear hK K
                refine take_L (i := 21) rfl (by kernel_rfl) (by kernel_rfl) (by kernel_rfl) (by kernel_rfl) (fun _ _ _ _ h => h) (by exact hHeld) (fun K hK => ?_)
                go_simp
                refine hK _ ?_
                clear hK K
                refine take_L (i := 22) rfl (by kernel_rfl) (by kernel_rfl) (by kernel_rfl) (by kernel_rfl) (fun _ _ _ _ h => h) (by exact hHeld) (fun K hK => ?_)
                go_simp
                refine hK _ ?_
                clear hK K
                refine take_L (i := 23) rfl (by kernel_rfl) (by kernel_rfl) (by kernel_rfl) (by kernel_rfl) (fun _ _ _ _ h => h) (by exact hHeld) (fun K hK => ?_)
                go_simp
                refine hK _ ?_
                clear hK K
                refine take_L (i := 24) rfl (by kernel_rfl) (by kernel_rfl) (by kernel_rfl) (by kernel_rfl) (fun _ _ _ _ h => h) (by exact hHeld) (fun K hK => ?_)
                go_simp
                refine hK _ ?_
                clear hK K
                refine take_L (i := 25) rfl (by kernel_rfl) (by kernel_rfl) (by kernel_rfl) (by kernel_rfl) (fun _ _ _ _ h => h) (by exact hHeld) (fun K hK => ?_)
                go_simp
                refine hK _ ?_
                clear hK K
                refine take_L (i := 26) rfl (by kernel_rfl) (by kernel_rfl) (by kernel_rfl) (by kernel_rfl) (fun _ _ _ _ h => h) (by exact hHeld) (fun K hK => ?_)
                go_simp
                refine hK _ ?_
                clear hK K
                refine take_L (i := 27) rfl (by kernel_rfl) (by kernel_rfl) (by kernel_rfl) (by kernel_rfl) (fun _ _ _ _ h => h) (by exact hHeld) (fun K hK => ?_)
                go_simp
                refine hK _ ?_
                clear hK K
                refine one_L (i := 28) (by kernel_rfl) rfl (fun K hK => ?_)
                go_simp
                refine hK.out _ _ (fun h => absurd rfl h) ?_
                clear hK K
                refine done_L (by kernel_rfl) ?_ _
                clear hHeld hne k1 k2 k3 k4 k5 q0 q1 q2
                go_wp2
                go_roundw
                case rel => exact ⟨i + 1, by omega, by simp, Hv.out, HSa.out, HNa.out⟩
                case measure => simp [intOf]; omega
            · have Hv : Hid (Value.bool true = .bool (hadTo l (f1, f2, f3) ix (i + 1))) := by show _ = _; rw [Hn.out, ← HT.out, Bool.true_or]
              refine region_L (fun w' => Below W.heap.size W w' ∧ At3 W.heap.size f1 f2 f3 w') 28 (by kernel_rfl) ?_
              have HSa : Hid (Hold W.heap.size (fun k => k = W.heap.size) wr.drew d S ∧ At3 W.heap.size f1 f2 f3 wr.drew) := ⟨HS.out.1.drew, HS.out.2⟩
              have HNa : Hid (Below W.heap.size W wr.drew) := HN.out.drew
              clear HS HN
              generalize wr.drew = w7 at *
              have hHeld : (fun w' => Below W.heap.size W w' ∧ At3 W.heap.size f1 f2 f3 w') _ := ⟨HNa.out, HSa.out.2⟩
              have hne : Nonempty (Sub (fun w' => Below W.heap.size W w' ∧ At3 W.heap.size f1 f2 f3 w')) := ⟨⟨_, hHeld⟩⟩
              have k1 : ∀ s : Sub (fun w' => Below W.heap.size W w' ∧ At3 W.heap.size f1 f2 f3 w'), s.w.cell? ⟨b, off + i * 6 + 1, none⟩ = some (.int .i64 g1) := fun s => (HO.out.on s.ok.1).c1
              have k2 : ∀ s : Sub (fun w' => Below W.heap.size W w' ∧ At3 W.heap.size f1 f2 f3 w'), s.w.cell? ⟨b, off + i * 6 + 2, none⟩ = some (.int .i64 g2) := fun s => (HO.out.on s.ok.1).c2
              have k3 : ∀ s : Sub (fun w' => Below W.heap.size W w' ∧ At3 W.heap.size f1 f2 f3 w'), s.w.cell? ⟨b, off + i * 6 + 3, none⟩ = some (.int .i64 g3) := fun s => (HO.out.on s.ok.1).c3
              have k4 : ∀ s : Sub (fun w' => Below W.heap.size W w' ∧ At3 W.heap.size f1 f2 f3 w'), s.w.cell? ⟨b, off + i * 6 + 4, none⟩ = some (.int .i64 oi) := fun s => (HO.out.on s.ok.1).c4
              have k5 : ∀ s : Sub (fun w' => Below W.heap.size W w' ∧ At3 W.heap.size f1 f2 f3 w'), s.w.cell? ⟨b, off + i * 6 + 5, none⟩ = some (.slice oa on oc) := fun s => (HO.out.on s.ok.1).c5
              have q0 : ∀ s : Sub (fun w' => Below W.heap.size W w' ∧ At3 W.heap.size f1 f2 f3 w'), s.w.cell? ⟨W.heap.size, 0, none⟩ = some (.int .i64 f1) := fun s => s.ok.2.1
              have q1 : ∀ s : Sub (fun w' => Below W.heap.size W w' ∧ At3 W.heap.size f1 f2 f3 w'), s.w.cell? ⟨W.heap.size, 1, none⟩ = some (.int .i64 f2) := fun s => s.ok.2.2.1
              have q2 : ∀ s : Sub (fun w' => Below W.heap.size W w' ∧ At3 W.heap.size f1 f2 f3 w'), s.w.cell? ⟨W.heap.size, 2, none⟩ = some (.int .i64 f3) := fun s => s.ok.2.2.2
              refine take_L (i := 0) rfl (by kernel_rfl) (by kernel_rfl) (by kernel_rfl) (by kernel_rfl) (fun _ _ _ _ h => h) (by exact hHeld) (fun K hK => ?_)
              go_simp
              refine hK _ ?_
              clear hK K
              refine take_L (i := 1) rfl (by kernel_rfl) (by kernel_rfl) (by kernel_rfl) (by kernel_rfl) (fun _ _ _ _ h => h) (by exact hHeld) (fun K hK => ?_)
              go_simp
              refine hK _ ?_
              clear hK K
              refine take_L (i := 2) rfl (by kernel_rfl) (by kernel_rfl) (by kernel_rfl) (by kernel_rfl) (fun _ _ _ _ h => h) (by exact hHeld) (fun K hK => ?_)
              go_simp
              refine hK _ ?_
              clear hK K
              refine take_L (i := 3) rfl (by kernel_rfl) (by kernel_rfl) (by kernel_rfl) (by kernel_rfl) (fun _ _ _ _ h => h) (by exact hHeld) (fun K hK => ?_)
              go_simp
              refine hK _ ?_
              clear hK K
              refine take_L (i := 4) rfl (by kernel_rfl) (by kernel_rfl) (by kernel_rfl) (by kernel_rfl) (fun _ _ _ _ h => h) (by exact hHeld) (fun K hK => ?_)
              go_simp
              refine hK _ ?_
              clear hK K
              refine take_L (i := 5) rfl (by kernel_rfl) (by kernel_rfl) (by kernel_rfl) (by kernel_rfl) (fun _ _ _ _ h => h) (by exact hHeld) (fun K hK => ?_)
              go_simp
              refine hK _ ?_
              clear hK K
              refine take_L (i := 6) rfl (by kernel_rfl) (by kernel_rfl) (by kernel_rfl) (by kernel_rfl) (fun _ _ _ _ h => h) (by exact hHeld) (fun K hK => ?_)
              go_simp
              refine hK _ ?_
              clear hK K
              refine take_L (i := 7) rfl (by kernel_rfl) (by kernel_rfl) (by kernel_rfl) (by kernel_rfl) (fun _ _ _ _ h => h) (by exact hHeld) (fun K hK => ?_)
              go_simp
              refine hK _ ?_
              clear hK K
              refine take_L (i := 8) rfl (by kernel_rfl) (by kernel_rfl) (by kernel_rfl) (by kernel_rfl) (fun _ _ _ _ h => h) (by exact hHeld) (fun K hK => ?_)
              go_simp
              refine hK _ ?_
              clear hK K
              refine take_L (i := 9) rfl (by kernel_rfl) (by kernel_rfl) (by kernel_rfl) (by kernel_rfl) (fun _ _ _ _ h => h) (by exact hHeld) (fun K hK => ?_)
              go_simp
              refine hK _ ?_
              clear hK K
              refine take_L (i := 10) rfl (by kernel_rfl) (by kernel_rfl) (by kernel_rfl) (by kernel_rfl) (fun _ _ _ _ h => h) (by exact hHeld) (fun K hK => ?_)
              go_simp
              refine hK _ ?_
              clear hK K
              refine take_L (i := 11) rfl (by kernel_rfl) (by kernel_rfl) (by kernel_rfl) (by kernel_rfl) (fun _ _ _ _ h => h) (by exact hHeld) (fun K hK => ?_)
              go_simp
              refine hK _ ?_
              clear hK K
              refine take_L (i := 12) rfl (by kernel_rfl) (by kernel_rfl) (by kernel_rfl) (by kernel_rfl) (fun _ _ _ _ h => h) (by exact hHeld) (fun K hK => ?_)
              go_simp
              refine hK _ ?_
              clear hK K
              refine take_L (i := 13) rfl (by kernel_rfl) (by kernel_rfl) (by kernel_rfl) (by kernel_rfl) (fun _ _ _ _ h => h) (by exact hHeld) (fun K hK => ?_)
              go_simp
              refine hK _ ?_
              clear hK K
              refine take_L (i := 14) rfl (by kernel_rfl) (by kernel_rfl) (by kernel_rfl) (by kernel_rfl) (fun _ _ _ _ h => h) (by exact hHeld) (fun K hK => ?_)
              go_simp
              refine hK _ ?_
              clear hK K
              refine take_L (i := 15) rfl (by kernel_rfl) (by kernel_rfl) (by kernel_rfl) (by kernel_rfl) (fun _ _ _ _ h => h) (by exact hHeld) (fun K hK => ?_)
              go_simp
              refine hK _ ?_
              clear hK K
              refine take_L (i := 16) rfl (by kernel_rfl) (by kernel_rfl) (by kernel_rfl) (by kernel_rfl) (fun _ _ _ _ h => h) (by exact hHeld) (fun K hK => ?_)
              go_simp
              refine hK _ ?_
              clear hK K
              refine take_L (i := 17) rfl (by kernel_rfl) (by kernel_rfl) (by kernel_rfl) (by kernel_rfl) (fun _ _ _ _ h => h) (by exact hHeld) (fun K hK => ?_)
              go_simp
              refine hK _ ?_
              clear hK K
              refine take_L (i := 18) rfl (by kernel_rfl) (by kernel_rfl) (by kernel_rfl) (by kernel_rfl) (fun _ _ _ _ h => h) (by exact hHeld) (fun K hK => ?_)
              go_simp
              refine hK _ ?_
              clear hK K
              refine take_L (i := 19) rfl (by kernel_rfl) (by kernel_rfl) (by kernel_rfl) (by kernel_rfl) (fun _ _ _ _ h => h) (by exact hHeld) (fun K hK => ?_)
              go_simp
              refine hK _ ?_
              clear hK K
              refine take_L (i := 20) rfl (by kernel_rfl) (by kernel_rfl) (by kernel_rfl) (by kernel_rfl) (fun _ _ _ _ h => h) (by exact hHeld) (fun K hK => ?_)
              go_simp
              refine hK _ ?_
              clear hK K
              refine take_L (i := 21) rfl (by kernel_rfl) (by kernel_rfl) (by kernel_rfl) (by kernel_rfl) (fun _ _ _ _ h => h) (by exact hHeld) (fun K hK => ?_)
              go_simp
              refine hK _ ?_
              clear hK K
              refine take_L (i := 22) rfl (by kernel_rfl) (by kernel_rfl) (by kernel_rfl) (by kernel_rfl) (fun _ _ _ _ h => h) (by exact hHeld) (fun K hK => ?_)
              go_simp
              refine hK _ ?_
              clear hK K
              refine take_L (i := 23) rfl (by kernel_rfl) (by kernel_rfl) (by kernel_rfl) (by kernel_rfl) (fun _ _ _ _ h => h) (by exact hHeld) (fun K hK => ?_)
              go_simp
              refine hK _ ?_
              clear hK K
              refine take_L (i := 24) rfl (by kernel_rfl) (by kernel_rfl) (by kernel_rfl) (by kernel_rfl) (fun _ _ _ _ h => h) (by exact hHeld) (fun K hK => ?_)
              go_simp
              refine hK _ ?_
              clear hK K
              refine take_L (i := 25) rfl (by kernel_rfl) (by kernel_rfl) (by kernel_rfl) (by kernel_rfl) (fun _ _ _ _ h => h) (by exact hHeld) (fun K hK => ?_)
              go_simp
              refine hK _ ?_
              clear hK K
              refine take_L (i := 26) rfl (by kernel_rfl) (by kernel_rfl) (by kernel_rfl) (by kernel_rfl) (fun _ _ _ _ h => h) (by exact hHeld) (fun K hK => ?_)
              go_simp
              refine hK _ ?_
              clear hK K
              refine take_L (i := 27) rfl (by kernel_rfl) (by kernel_rfl) (by kernel_rfl) (by kernel_rfl) (fun _ _ _ _ h => h) (by exact hHeld) (fun K hK => ?_)
              go_simp
              refine hK _ ?_
              clear hK K
              refine one_L (i := 28) (by kernel_rfl) rfl (fun K hK => ?_)
              go_simp
              refine hK.out _ _ (fun h => absurd rfl h) ?_
              clear hK K
              refine done_L (by kernel_rfl) ?_ _
              clear hHeld hne k1 k2 k3 k4 k5 q0 q1 q2
              go_wp2
              go_roundw
              case rel => exact ⟨i + 1, by omega, by simp, Hv.out, HSa.out, HNa.out⟩
              case measure => simp [intOf]; omega
          · obtain rfl : i = j := by omega
            have HT : Hid (hadTo l (f1, f2, f3) ix i = false → Go.Proofs.Ytfpcfgfpebdplaa.has S.l (f1, f2, f3) ix = none) := HI5.out.had
            generalize hadTo l (f1, f2, f3) ix i = T at *
            obtain ⟨fs, hfs⟩ : ∃ fs, fs = filesOf (at_ S.l) := ⟨_, rfl⟩
            have Hfs : Hid (fs = filesOf (at_ S.l)) := hfs
            have hfsl : fs.length ≤ 1000000 := by have := files_len S.l; rw [← hfs] at this; omega
            clear hfs HD5 HA5 HN5
            by_cases hr : 0 ≤ ix ∧ ix < 4096
            · have hR0 := read_ok S (f1, f2, f3) ix hr HI5.out.out
              obtain ⟨L, hL⟩ : ∃ L, L = (Go.Proofs.Ytfpcfgfpebdplaa.has S.l (f1, f2, f3) ix).getD (List.replicate 32 0) := ⟨_, rfl⟩
              have HL : Hid (T = false → L = List.replicate 32 0) := fun h => by rw [hL, HT.out h]; rfl
              rw [← hL] at hR0
              have HRd : Hid (S.read (f1, f2, f3) ix = (0, L)) := hR0
              have HLl : Hid (L.length = 32) := by rw [hL]; obtain ⟨F, ⟨mb, ml, hPD⟩, _⟩ := HS.out.1; exact (has_fit hPD (f1, f2, f3) ix).1
              clear hL hR0 HT HI5
              have y0 := HS.out.2.1
              have y1 := HS.out.2.2.1
              have y2 := HS.out.2.2.2
              go_wp2_with fail
              refine (hread W.heap.size (fun k => k = W.heap.size) d S f1 f2 f3 ix Hf.out Hix.out wr HS.out.1).mono ?_
              rintro e w8 ⟨hr8, hD8⟩
              rw [HRd.out] at hr8
              obtain ⟨a14, c14, rfl, hs14, hb8⟩ := read_src hr8
              simp only at hs14 ⊢
              have Hlen14 : Hid (L.length = 0 ∨ L.length = 32) := read_len hr8
              have HA8 : Hid (At3 W.heap.size f1 f2 f3 w8) := HS.out.2.inside hb8
              have HN8 : Hid (Below W.heap.size W w8) := HN.out.trans (hb8.mono HN.out.size)
              have HD8 : Hid (Hold W.heap.size (fun k => k = W.heap.size) w8 d S) := hD8
              have HS14 : Hid (Src w8 a14 L.length L) := hs14
              have hz0 := HA8.out.1
              have hz1 := HA8.out.2.1
              have hz2 := HA8.out.2.2
              clear hr8 hD8 hs14 hb8 HS HN y0 y1 y2
              go_wp2_with fail
              refine (hfiles W.heap.size (fun k => k = W.heap.size) d S w8 HD8.out).mono ?_
              rintro e w9 ⟨a16, n16, c16, rfl, hf16, hb9⟩
              rw [← Hfs.out] at hf16
              obtain rfl := hf16.n
              have HA9 : Hid (At3 W.heap.size f1 f2 f3 w9) := HA8.out.inside hb9
              have HN9 : Hid (Below W.heap.size W w9) := HN8.out.trans (hb9.mono HN8.out.size)
              have HD9 : Hid (Hold W.heap.size (fun k => k = W.heap.size) w9 d S) := HD8.out.inside hb9
              have HS9 : Hid (Src w9 a14 L.length L) := HS14.out.later hb9
              clear hz0 hz1 hz2 hf16 hb9 HA8 HN8 HD8 HS14
              have hz0 := HA9.out.1
              have hz1 := HA9.out.2.1
              have hz2 := HA9.out.2.2
              go_wp2_with fail
              refine (hread W.heap.size (fun k => k = W.heap.size) d S f1 f2 f3 ix Hf.out Hix.out w9 HD9.out).mono ?_
              rintro e w10 ⟨hr10, hD10⟩
              rw [HRd.out] at hr10
              obtain ⟨a17, c17, rfl, hs17, hb10⟩ := read_src hr10
              simp only at hs17 ⊢
              obtain ⟨n14, hn14⟩ : ∃ n14, n14 = L.length := ⟨_, rfl⟩
              rw [← hn14] at hs17 HS9 Hlen14 ⊢
              obtain ⟨st, hst⟩ : ∃ st, st = strOfNums L := ⟨_, rfl⟩
              have hc1 : (convert 31 9 (.slice a14 n14 c14)).run Try.prog w10 = .ok (.string st) w10 := by rw [hst]; exact conv_c (HS9.out.later hb10)
              have hc2 : (convert 31 9 (.slice a17 n14 c17)).run Try.prog w10 = .ok (.string st) w10 := by rw [hst]; exact conv_c hs17
              have HD10 : Hid (Hold W.heap.size (fun k => k = W.heap.size) w10 d S) := hD10
              have HN10 : Hid (Below W.heap.size W w10) := HN9.out.trans (hb10.mono HN9.out.size)
              have HS10 : Hid (Src w10 a14 n14 L) := HS9.out.later hb10
              have Hst : Hid (st = strOfNums L) := hst
              have Hn14 : Hid (n14 = L.length) := hn14
              clear hr10 hD10 hs17 hb10 HA9 HN9 HD9 HS9 hz0 hz1 hz2 hst hn14
              go_wp2_with fail
              refine (hwrites W.heap.size (fun k => k = W.heap.size) d S w10 HD10.out).mono ?_
              rintro e wq ⟨rfl, hwq⟩
              replace hwq := hwq.symm
              subst hwq
              go_wp2_with fail
              refine (hfiles W.heap.size (fun k => k = W.heap.size) d S w10 HD10.out).mono ?_
              rintro e w11 ⟨a18, n18, c18, rfl, hf18, hb11⟩
              rw [← Hfs.out] at hf18
              obtain rfl := hf18.n
              have HS11 : Hid (Src w11 a14 n14 L) := HS10.out.later hb11
              have HN11 : Hid (Below W.heap.size W w11) := HN10.out.trans (hb11.mono HN10.out.size)
              clear hf18 hb11 HS10 HN10 HD10 hc1 hc2
              have R := HP.out w11 HN11.out
              have hn32 : n14 = 32 := by have h1 := Hlen14.out; have h2 := HLl.out; have h3 := Hn14.out; omega
              subst hn32
              go_wp2
              rcases T with _ | _
              · have HST0 : Hid (st = strOfNums noughts) := by show _ = _; rw [Hst.out, HL.out rfl]; rfl
                refine region_L (fun w' => Src w' a14 32 L) 13 (by kernel_rfl) ?_
                have HSa : Hid (Src w11.drew a14 32 L) := ⟨HS11.out.len, HS11.out.cells, HS11.out.byte⟩
                have HNa : Hid (Below W.heap.size W w11.drew) := HN11.out.drew
                clear HS11 HN11 R
                generalize w11.drew = va at *
                have hHeld : (fun w' => Src w' a14 32 L) _ := HSa.out
                have hne : Nonempty (Sub (fun w' => Src w' a14 32 L)) := ⟨⟨_, hHeld⟩⟩
                have k0 : ∀ s : Sub (fun w' => Src w' a14 32 L), (convert 31 9 (.slice a14 32 c14)).run Try.prog s.w = .ok (.string st) s.w := fun s => by rw [Hst.out]; exact conv_c s.ok
                refine take_L (i := 0) rfl (by kernel_rfl) (by kernel_rfl) (by kernel_rfl) (by kernel_rfl) (fun _ _ _ _ h => h) (by exact hHeld) (fun K hK => ?_)
                go_simp
                refine hK _ ?_
                clear hK K
                refine take_L (i := 1) rfl (by kernel_rfl) (by kernel_rfl) (by kernel_rfl) (by kernel_rfl) (fun _ _ _ _ h => h) (by exact hHeld) (fun K hK => ?_)
                go_simp
                refine hK _ ?_
                clear hK K
                refine take_L (i := 2) rfl (by kernel_rfl) (by kernel_rfl) (by kernel_rfl) (by kernel_rfl) (fun _ _ _ _ h => h) (by exact hHeld) (fun K hK => ?_)
                go_simp
                refine hK _ ?_
                clear hK K
                refine take_L (i := 3) rfl (by kernel_rfl) (by kernel_rfl) (by kernel_rfl) (by kernel_rfl) (fun _ _ _ _ h => h) (by exact hHeld) (fun K hK => ?_)
                go_simp
                refine hK _ ?_
                clear hK K
                refine take_L (i := 4) rfl (by kernel_rfl) (by kernel_rfl) (by kernel_rfl) (by kernel_rfl) (fun _ _ _ _ h => h) (by exact hHeld) (fun K hK => ?_)
                go_simp
                refine hK _ ?_
                clear hK K
                refine take_L (i := 5) rfl (by kernel_rfl) (by kernel_rfl) (by kernel_rfl) (by kernel_rfl) (fun _ _ _ _ h => h) (by exact hHeld) (fun K hK => ?_)
                go_simp
                refine hK _ ?_
                clear hK K
                refine take_L (i := 6) rfl (by kernel_rfl) (by kernel_rfl) (by kernel_rfl) (by kernel_rfl) (fun _ _ _ _ h => h) (by exact hHeld) (fun K hK => ?_)
                go_simp
                refine hK _ ?_
                clear hK K
                refine take_L (i := 7) rfl (by kernel_rfl) (by kernel_rfl) (by kernel_rfl) (by kernel_rfl) (fun _ _ _ _ h => h) (by exact hHeld) (fun K hK => ?_)
                go_simp
                refine hK _ ?_
                clear hK K
                refine one_L (i := 8) (by kernel_rfl) rfl (fun K hK => ?_)
                go_simp
                refine (block_c 0 va).mono ?_
                rintro _ vb ⟨⟨rfl, hrb⟩, hbb⟩
                have HNb : Hid (Below W.heap.size W vb) := HNa.out.trans (hbb.mono HNa.out.size)
                have hSb := Src.later hHeld hbb
                have hRb : Row vb va.heap.size noughts := hrb
                clear hrb hbb
                generalize va.heap.size = q at *
                replace hHeld : (fun w' => Src w' a14 32 L) _ := hSb
                refine hK.out _ _ (fun _ => hHeld) ?_
                clear hK K
                refine strong_L (S' := fun w' => Src w' a14 32 L ∧ Row w' q noughts) (fun _ h => h.1) _ _ _ _ ?_
                replace hHeld : (fun w' => Src w' a14 32 L ∧ Row w' q noughts) _ := ⟨hHeld, hRb⟩
                have hne2 : Nonempty (Sub (fun w' => Src w' a14 32 L ∧ Row w' q noughts)) := ⟨⟨_, hHeld⟩⟩
                have k1 : ∀ s : Sub (fun w' => Src w' a14 32 L ∧ Row w' q noughts), (convert 31 9 (.slice (some ⟨q, 0, none⟩) 32 32)).run Try.prog s.w = .ok (.string st) s.w := fun s => by rw [HST0.out]; exact conv_c (row_src s.ok.2 (small 0 (by decide)))
                refine take_L (i := 9) rfl (by kernel_rfl) (by kernel_rfl) (by kernel_rfl) (by kernel_rfl) (fun _ _ _ _ h => h) (by exact hHeld) (fun K hK => ?_)
                go_simp
                refine hK _ ?_
                clear hK K
                refine take_L (i := 10) rfl (by kernel_rfl) (by kernel_rfl) (by kernel_rfl) (by kernel_rfl) (fun _ _ _ _ h => h) (by exact hHeld) (fun K hK => ?_)
                go_simp
                refine hK _ ?_
                clear hK K
                refine take_L (i := 11) rfl (by kernel_rfl) (by kernel_rfl) (by kernel_rfl) (by kernel_rfl) (fun _ _ _ _ h => h) (by exact hHeld) (fun K hK => ?_)
                go_simp
                refine hK _ ?_
                clear hK K
                refine take_L (i := 12) rfl (by kernel_rfl) (by kernel_rfl) (by kernel_rfl) (by kernel_rfl) (fun _ _ _ _ h => h) (by exact hHeld) (fun K hK => ?_)
                go_simp
                refine hK _ ?_
                clear hK K
                refine one_L (i := 13) (by kernel_rfl) rfl (fun K hK => ?_)
                go_simp
                refine hK.out _ _ (fun h => absurd rfl h) ?_
                clear hK K
                refine done_L (by kernel_rfl) ?_ _
                have R := HP.out vb HNb.out
                clear HP
                go_wp2
                exact R
              · refine region_L (fun w' => Src w' a14 32 L) 13 (by kernel_rfl) ?_
                have HSa : Hid (Src w11.drew a14 32 L) := ⟨HS11.out.len, HS11.out.cells, HS11.out.byte⟩
                have HNa : Hid (Below W.heap.size W w11.drew) := HN11.out.drew
                clear HS11 HN11 R
                generalize w11.drew = va at *
                have hHeld : (fun w' => Src w' a14 32 L) _ := HSa.out
                have hne : Nonempty (Sub (fun w' => Src w' a14 32 L)) := ⟨⟨_, hHeld⟩⟩
                have k0 : ∀ s : Sub (fun w' => Src w' a14 32 L), (convert 31 9 (.slice a14 32 c14)).run Try.prog s.w = .ok (.string st) s.w := fun s => by rw [Hst.out]; exact conv_c s.ok
                refine take_L (i := 0) rfl (by kernel_rfl) (by kernel_rfl) (by kernel_rfl) (by kernel_rfl) (fun _ _ _ _ h => h) (by exact hHeld) (fun K hK => ?_)
                go_simp
                refine hK _ ?_
                clear hK K
                refine take_L (i := 1) rfl (by kernel_rfl) (by kernel_rfl) (by kernel_rfl) (by kernel_rfl) (fun _ _ _ _ h => h) (by exact hHeld) (fun K hK => ?_)
                go_simp
                refine hK _ ?_
                clear hK K
                refine take_L (i := 2) rfl (by kernel_rfl) (by kernel_rfl) (by kernel_rfl) (by kernel_rfl) (fun _ _ _ _ h => h) (by exact hHeld) (fun K hK => ?_)
                go_simp
                refine hK _ ?_
                clear hK K
                refine take_L (i := 3) rfl (by kernel_rfl) (by kernel_rfl) (by kernel_rfl) (by kernel_rfl) (fun _ _ _ _ h => h) (by exact hHeld) (fun K hK => ?_)
                go_simp
                refine hK _ ?_
                clear hK K
                refine take_L (i := 4) rfl (by kernel_rfl) (by kernel_rfl) (by kernel_rfl) (by kernel_rfl) (fun _ _ _ _ h => h) (by exact hHeld) (fun K hK => ?_)
                go_simp
                refine hK _ ?_
                clear hK K
                refine take_L (i := 5) rfl (by kernel_rfl) (by kernel_rfl) (by kernel_rfl) (by kernel_rfl) (fun _ _ _ _ h => h) (by exact hHeld) (fun K hK => ?_)
                go_simp
                refine hK _ ?_
                clear hK K
                refine take_L (i := 6) rfl (by kernel_rfl) (by kernel_rfl) (by kernel_rfl) (by kernel_rfl) (fun _ _ _ _ h => h) (by exact hHeld) (fun K hK => ?_)
                go_simp
                refine hK _ ?_
                clear hK K
                refine take_L (i := 7) rfl (by kernel_rfl) (by kernel_rfl) (by kernel_rfl) (by kernel_rfl) (fun _ _ _ _ h => h) (by exact hHeld) (fun K hK => ?_)
                go_simp
                refine hK _ ?_
                clear hK K
                refine take_L (i := 8) rfl (by kernel_rfl) (by kernel_rfl) (by kernel_rfl) (by kernel_rfl) (fun _ _ _ _ h => h) (by exact hHeld) (fun K hK => ?_)
                go_simp
                refine hK _ ?_
                clear hK K
                refine take_L (i := 9) rfl (by kernel_rfl) (by kernel_rfl) (by kernel_rfl) (by kernel_rfl) (fun _ _ _ _ h => h) (by exact hHeld) (fun K hK => ?_)
                go_simp
                refine hK _ ?_
                clear hK K
                refine take_L (i := 10) rfl (by kernel_rfl) (by kernel_rfl) (by kernel_rfl) (by kernel_rfl) (fun _ _ _ _ h => h) (by exact hHeld) (fun K hK => ?_)
                go_simp
                refine hK _ ?_
                clear hK K
                refine take_L (i := 11) rfl (by kernel_rfl) (by kernel_rfl) (by kernel_rfl) (by kernel_rfl) (fun _ _ _ _ h => h) (by exact hHeld) (fun K hK => ?_)
                go_simp
                refine hK _ ?_
                clear hK K
                refine take_L (i := 12) rfl (by kernel_rfl) (by kernel_rfl) (by kernel_rfl) (by kernel_rfl) (fun _ _ _ _ h => h) (by exact hHeld) (fun K hK => ?_)
                go_simp
                refine hK _ ?_
                clear hK K
                refine one_L (i := 13) (by kernel_rfl) rfl (fun K hK => ?_)
                go_simp
                refine hK.out _ _ (fun h => absurd rfl h) ?_
                clear hK K
                refine done_L (by kernel_rfl) ?_ _
                have R := HP.out va HNa.out
                clear HP
                go_wp2
                exact R
            · have HRd : Hid (S.read (f1, f2, f3) ix = (1, [])) := read_arg S (f1, f2, f3) ix hr
              obtain ⟨L, hL⟩ : ∃ L : List Int, L = [] := ⟨_, rfl⟩
              rw [← hL] at HRd
              clear hL HT HI5
              have y0 := HS.out.2.1
              have y1 := HS.out.2.2.1
              have y2 := HS.out.2.2.2
              go_wp2_with fail
              refine (hread W.heap.size (fun k => k = W.heap.size) d S f1 f2 f3 ix Hf.out Hix.out wr HS.out.1).mono ?_
              rintro e w8 ⟨hr8, hD8⟩
              rw [HRd.out] at hr8
              obtain ⟨a14, c14, rfl, hs14, hb8⟩ := read_src hr8
              simp only at hs14 ⊢
              have Hlen14 : Hid (L.length = 0 ∨ L.length = 32) := read_len hr8
              have HA8 : Hid (At3 W.heap.size f1 f2 f3 w8) := HS.out.2.inside hb8
              have HN8 : Hid (Below W.heap.size W w8) := HN.out.trans (hb8.mono HN.out.size)
              have HD8 : Hid (Hold W.heap.size (fun k => k = W.heap.size) w8 d S) := hD8
              have HS14 : Hid (Src w8 a14 L.length L) := hs14
              have hz0 := HA8.out.1
              have hz1 := HA8.out.2.1
              have hz2 := HA8.out.2.2
              clear hr8 hD8 hs14 hb8 HS HN y0 y1 y2
              go_wp2_with fail
              refine (hfiles W.heap.size (fun k => k = W.heap.size) d S w8 HD8.out).mono ?_
              rintro e w9 ⟨a16, n16, c16, rfl, hf16, hb9⟩
              rw [← Hfs.out] at hf16
              obtain rfl := hf16.n
              have HA9 : Hid (At3 W.heap.size f1 f2 f3 w9) := HA8.out.inside hb9
              have HN9 : Hid (Below W.heap.size W w9) := HN8.out.trans (hb9.mono HN8.out.size)
              have HD9 : Hid (Hold W.heap.size (fun k => k = W.heap.size) w9 d S) := HD8.out.inside hb9
              have HS9 : Hid (Src w9 a14 L.length L) := HS14.out.later hb9
              clear hz0 hz1 hz2 hf16 hb9 HA8 HN8 HD8 HS14
              have hz0 := HA9.out.1
              have hz1 := HA9.out.2.1
              have hz2 := HA9.out.2.2
              go_wp2_with fail
              refine (hread W.heap.size (fun k => k = W.heap.size) d S f1 f2 f3 ix Hf.out Hix.out w9 HD9.out).mono ?_
              rintro e w10 ⟨hr10, hD10⟩
              rw [HRd.out] at hr10
              obtain ⟨a17, c17, rfl, hs17, hb10⟩ := read_src hr10
              simp only at hs17 ⊢
              obtain ⟨n14, hn14⟩ : ∃ n14, n14 = L.length := ⟨_, rfl⟩
              rw [← hn14] at hs17 HS9 Hlen14 ⊢
              obtain ⟨st, hst⟩ : ∃ st, st = strOfNums L := ⟨_, rfl⟩
              have hc1 : (convert 31 9 (.slice a14 n14 c14)).run Try.prog w10 = .ok (.string st) w10 := by rw [hst]; exact conv_c (HS9.out.later hb10)
              have hc2 : (convert 31 9 (.slice a17 n14 c17)).run Try.prog w10 = .ok (.string st) w10 := by rw [hst]; exact conv_c hs17
              have HD10 : Hid (Hold W.heap.size (fun k => k = W.heap.size) w10 d S) := hD10
              have HN10 : Hid (Below W.heap.size W w10) := HN9.out.trans (hb10.mono HN9.out.size)
              have HS10 : Hid (Src w10 a14 n14 L) := HS9.out.later hb10
              have Hst : Hid (st = strOfNums L) := hst
              have Hn14 : Hid (n14 = L.length) := hn14
              clear hr10 hD10 hs17 hb10 HA9 HN9 HD9 HS9 hz0 hz1 hz2 hst hn14
              go_wp2_with fail
              refine (hwrites W.heap.size (fun k => k = W.heap.size) d S w10 HD10.out).mono ?_
              rintro e wq ⟨rfl, hwq⟩
              replace hwq := hwq.symm
              subst hwq
              go_wp2_with fail
              refine (hfiles W.heap.size (fun k => k = W.heap.size) d S w10 HD10.out).mono ?_
              rintro e w11 ⟨a18, n18, c18, rfl, hf18, hb11⟩
              rw [← Hfs.out] at hf18
              obtain rfl := hf18.n
              have HS11 : Hid (Src w11 a14 n14 L) := HS10.out.later hb11
              have HN11 : Hid (Below W.heap.size W w11) := HN10.out.trans (hb11.mono HN10.out.size)
              clear hf18 hb11 HS10 HN10 HD10 hc1 hc2
              have R := HP.out w11 HN11.out
              by_cases hneg : ix < 0
              · go_wp2
                exact R
              · have hge : 4096 ≤ ix := by omega
                go_wp2
                exact R
end Go.Proofs.Ytfpcfgfpebdplaa
