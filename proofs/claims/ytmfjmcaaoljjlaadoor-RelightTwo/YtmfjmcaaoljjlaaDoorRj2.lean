/-
  The landed Field in memory; Kinds, Sky, Lamp; Set.
  The landed Set.
-/
import Derived.Test.YtmfjmcaaoljjlaaDoorRn2
set_option maxRecDepth 20000
namespace Go.Proofs.YtmfjmcaaoljjlaaDoor
section
open C Go.RowKit L

/-- The field's block. -/
def fcells (p W D T kb cap sb sc lb lc n : Nat) : Array Value := #[.int .i64 (W : Int), .int .i64 (D : Int), .int .i64 (T : Int), .slice (some ⟨kb, 0, none⟩) n cap, .pointer (some ⟨p, 0, none⟩), .iface 57 (.agg #[.pointer (some ⟨p, 0, none⟩)]), .slice (some ⟨sb, 0, none⟩) n sc, .pointer (some ⟨p, 0, none⟩), .iface 58 (.agg #[.pointer (some ⟨p, 0, none⟩)]), .slice (some ⟨lb, 0, none⟩) n lc]
/-- Where a field's parts lie. -/
structure FP where
  p : Nat
  kb : Nat
  cap : Nat
  sb : Nat
  sc : Nat
  lb : Nat
  lc : Nat
structure FI (f : FP) (W D T : Nat) (bs sl ll : List Int) (w : World) : Prop where
  hp : w.heap[f.p]? = some (.cells (fcells f.p W D T f.kb f.cap f.sb f.sc f.lb f.lc (W * D * T)) 54 (0, 0))
  kp : Pre w f.kb 5 bs
  sp : Pre w f.sb 5 sl
  lp : Pre w f.lb 5 ll
  n1 : f.kb ≠ f.sb
  n2 : f.kb ≠ f.lb
  n3 : f.sb ≠ f.lb
  z0 : 0 < f.p
  z1 : 0 < f.kb
  z2 : 0 < f.sb
  z3 : 0 < f.lb
def FP.own (f : FP) (j : Nat) : Prop := j = f.p ∨ j = f.kb ∨ j = f.sb ∨ j = f.lb
/-- A field of these cells, with their light. -/
structure FA (W D T : Nat) (bs : List Int) (f : FP) (w : World) : Prop where
  bx : Bx W D T
  li : ∃ sl ll, FI f W D T bs sl ll w ∧ LightOf (L.skyS W D T (fun j => bs.getD j 0) bx.w0 bx.d0) (W * D * T) sl ∧ LightOf (L.lampS W D T (fun j => bs.getD j 0) bx.w0 bx.d0) (W * D * T) ll
def JA (W D T : Nat) (bs : List Int) (p : Nat) (F : Nat → Prop) (w : World) : Prop := ∃ f : FP, f.p = p ∧ F = f.own ∧ FA W D T bs f w
theorem FI.keep {f : FP} {W D T : Nat} {bs sl ll : List Int} {w w' : World} (h : FI f W D T bs sl ll w) (hk : ∀ j, f.own j → w'.heap[j]? = w.heap[j]?) : FI f W D T bs sl ll w' := by
  have hp := hk f.p (.inl rfl)
  have h1 := hk f.kb (.inr (.inl rfl))
  have h2 := hk f.sb (.inr (.inr (.inl rfl)))
  have h3 := hk f.lb (.inr (.inr (.inr rfl)))
  have pk : ∀ {b : Nat} {cs : List Int}, Pre w b 5 cs → w'.heap[b]? = w.heap[b]? → Pre w' b 5 cs := fun ⟨c, a, r⟩ e => ⟨c, e.trans a, r⟩
  exact ⟨hp.trans h.hp, pk h.kp h1, pk h.sp h2, pk h.lp h3, h.n1, h.n2, h.n3, h.z0, h.z1, h.z2, h.z3⟩
theorem FA.keep {f : FP} {W D T : Nat} {bs : List Int} {w w' : World} (h : FA W D T bs f w) (hk : ∀ j, f.own j → w'.heap[j]? = w.heap[j]?) : FA W D T bs f w' := by
  obtain ⟨bx, sl, ll, h1, h2, h3⟩ := h
  exact ⟨bx, sl, ll, h1.keep hk, h2, h3⟩
theorem FI.lt {f : FP} {W D T : Nat} {bs sl ll : List Int} {w : World} (h : FI f W D T bs sl ll w) {j : Nat} (hj : f.own j) : j < w.heap.size := by
  rcases hj with rfl | rfl | rfl | rfl
  · exact (Array.getElem?_eq_some_iff.1 h.hp).1
  · exact h.kp.lt
  · exact h.sp.lt
  · exact h.lp.lt
theorem FI.pos {f : FP} {W D T : Nat} {bs sl ll : List Int} {w : World} (h : FI f W D T bs sl ll w) {j : Nat} (hj : f.own j) : 0 < j := by
  rcases hj with rfl | rfl | rfl | rfl
  · exact h.z0
  · exact h.z1
  · exact h.z2
  · exact h.z3
theorem only_below {F : Nat → Prop} {w w' : World} (h : Below w.heap.size w w') : OnlyF F w w' := OnlyF.of h
theorem onlyF_tabs {F : Nat → Prop} {w w' : World} (h : OnlyF F w w') (hF : ¬ F 0) (hT : Tabs w) : Tabs w' := by
  obtain ⟨t, fr, h1⟩ := hT.kinds
  exact ⟨⟨t, fr, (h.block 0 (Array.getElem?_eq_some_iff.1 h1).1 hF).trans h1⟩⟩
section
variable {f : FP} {W D T : Nat} {bs sl ll : List Int} {w : World}
theorem FI.cell (h : FI f W D T bs sl ll w) (j : Nat) : w.cell? ⟨f.p, j, none⟩ = (fcells f.p W D T f.kb f.cap f.sb f.sc f.lb f.lc (W * D * T))[j]? := cell_of_row w f.p j _ 54 (0, 0) h.hp
/-- Kinds, Sky and Lamp hand out copies. -/
theorem copy_c (F : Nat) (k : Nat) (hF : ∀ (p : Nat) (a : Option Addr) (n c : Nat) (w : World) (Q : Ending → World → Prop), w.cell? ⟨p, k, none⟩ = some (.slice a n c) → Calls Tryd.prog 19 #[.slice a n c] w (fun e w' => ∃ g c', e = .returned (.slice (some ⟨g, 0, none⟩) n c') ∧ Q (.returned (.slice (some ⟨g, 0, none⟩) n c')) w') → Calls Tryd.prog F #[.pointer (some ⟨p, 0, none⟩)] w Q)
    (ls : List Int) (b c : Nat) (hbx : Bx W D T) (h : FI f W D T bs sl ll w) (hc : (fcells f.p W D T f.kb f.cap f.sb f.sc f.lb f.lc (W * D * T))[k]? = some (.slice (some ⟨b, 0, none⟩) (W * D * T) c)) (hpr : Pre w b 5 ls) (hk : Kinds ls) (hl : ls.length = W * D * T) :
    Calls Tryd.prog F #[.pointer (some ⟨f.p, 0, none⟩)] w fun e w' => ∃ g c', e = .returned (.slice (some ⟨g, 0, none⟩) (W * D * T) c') ∧ Pre w' g 5 ls ∧ w.heap.size ≤ g ∧ Below w.heap.size w w' := by
  refine hF f.p (some ⟨b, 0, none⟩) (W * D * T) c w _ ((h.cell k).trans hc) ?_
  have hs := hpr.src hk
  rw [hl] at hs
  have hn : W * D * T ≤ 1000000 := Nat.le_trans (Nat.mul_le_mul (Nat.mul_le_mul hbx.w1 hbx.d1) hbx.t1) (by decide)
  refine (clone_c (some ⟨b, 0, none⟩) (W * D * T) c ls w (Nat.mul_pos (Nat.mul_pos hbx.w0 hbx.d0) hbx.t0) hn hs).mono ?_
  rintro _ w' ⟨g, c', rfl, h1, h2, h3⟩
  exact ⟨g, c', rfl, g, c', rfl, h1, h3, h2⟩
end
theorem w12 (p : Nat) (a : Option Addr) (n c : Nat) (w : World) (Q : Ending → World → Prop) (hc : w.cell? ⟨p, 6, none⟩ = some (.slice a n c)) (h : Calls Tryd.prog 19 #[.slice a n c] w (fun e w' => ∃ g c', e = .returned (.slice (some ⟨g, 0, none⟩) n c') ∧ Q (.returned (.slice (some ⟨g, 0, none⟩) n c')) w')) : Calls Tryd.prog 12 #[.pointer (some ⟨p, 0, none⟩)] w Q := by
  go_enter Tryd.func12, Tryd.ntmps12
  go_wp2_with fail
  refine h.mono ?_
  rintro _ w' ⟨g, c', rfl, R⟩
  clear h hc
  go_wp2
  first | exact R | (go_ret; exact R)
theorem w16 (p : Nat) (a : Option Addr) (n c : Nat) (w : World) (Q : Ending → World → Prop) (hc : w.cell? ⟨p, 9, none⟩ = some (.slice a n c)) (h : Calls Tryd.prog 19 #[.slice a n c] w (fun e w' => ∃ g c', e = .returned (.slice (some ⟨g, 0, none⟩) n c') ∧ Q (.returned (.slice (some ⟨g, 0, none⟩) n c')) w')) : Calls Tryd.prog 16 #[.pointer (some ⟨p, 0, none⟩)] w Q := by
  go_enter Tryd.func16, Tryd.ntmps16
  go_wp2_with fail
  refine h.mono ?_
  rintro _ w' ⟨g, c', rfl, R⟩
  clear h hc
  go_wp2
  first | exact R | (go_ret; exact R)
theorem w17 (p : Nat) (a : Option Addr) (n c : Nat) (w : World) (Q : Ending → World → Prop) (hc : w.cell? ⟨p, 3, none⟩ = some (.slice a n c)) (h : Calls Tryd.prog 19 #[.slice a n c] w (fun e w' => ∃ g c', e = .returned (.slice (some ⟨g, 0, none⟩) n c') ∧ Q (.returned (.slice (some ⟨g, 0, none⟩) n c')) w')) : Calls Tryd.prog 17 #[.pointer (some ⟨p, 0, none⟩)] w Q := by
  go_enter Tryd.func17, Tryd.ntmps17
  go_wp2_with fail
  refine h.mono ?_
  rintro _ w' ⟨g, c', rfl, R⟩
  clear h hc
  go_wp2
  first | exact R | (go_ret; exact R)
/-- The light of the sky of a field, and that of lamps, as lights in memory. -/
def eSky (f : FP) (W D T : Nat) (ks : List Int) : LE := ⟨f.p, f.p, 4, f.kb, f.cap, f.sb, f.sc, W, D, T, true, ks⟩
def eLamp (f : FP) (W D T : Nat) (ks : List Int) : LE := ⟨f.p, f.p, 7, f.kb, f.cap, f.lb, f.lc, W, D, T, false, ks⟩
section
variable {f : FP} {W D T : Nat} {bs sl ll : List Int} {w : World}
theorem pre_ne {w : World} {b p : Nat} {cs : List Int} {row : Array Value} {t : TypeId} (h : Pre w b 5 cs) (hp : w.heap[p]? = some (.cells row t (0, 0))) (ht : t ≠ 5) : b ≠ p := fun q => by
  obtain ⟨c, hc, _⟩ := h
  rw [q, hp] at hc
  cases hc
  exact ht rfl
theorem FI.oSky (h : FI f W D T bs sl ll w) (bx : Bx W D T) {ks : List Int} (hl : ks.length = W * D * T) (hk : Kinds ks) : LO (eSky f W D T ks) :=
  ⟨bx, hl, hk, pre_ne h.sp h.hp (by decide), pre_ne h.sp h.hp (by decide), h.n1.symm, h.z2⟩
theorem FI.oLamp (h : FI f W D T bs sl ll w) (bx : Bx W D T) {ks : List Int} (hl : ks.length = W * D * T) (hk : Kinds ks) : LO (eLamp f W D T ks) :=
  ⟨bx, hl, hk, pre_ne h.lp h.hp (by decide), pre_ne h.lp h.hp (by decide), h.n2.symm, h.z3⟩
theorem FI.mSky (h : FI f W D T bs sl ll w) (hT : Tabs w) : LM (eSky f W D T bs) w :=
  ⟨⟨(h.cell 0).trans rfl, (h.cell 1).trans rfl, (h.cell 2).trans rfl, (h.cell 3).trans rfl, h.kp, hT⟩, (h.cell 4).trans rfl, (h.cell 5).trans rfl, (h.cell 6).trans rfl⟩
theorem FI.mLamp (h : FI f W D T bs sl ll w) (hT : Tabs w) : LM (eLamp f W D T bs) w :=
  ⟨⟨(h.cell 0).trans rfl, (h.cell 1).trans rfl, (h.cell 2).trans rfl, (h.cell 3).trans rfl, h.kp, hT⟩, (h.cell 7).trans rfl, (h.cell 8).trans rfl, (h.cell 9).trans rfl⟩
end
theorem only_grown {F : Nat → Prop} {w w' : World} {g : Nat} (h : w.grownBy w' (some g)) (hF : F g) : OnlyF F w w' := ⟨h.os, h.tape, h.output, h.size, fun j hj hn => h.block j hj (fun q => hn (by injection q with q; rw [q]; exact hF))⟩
theorem only_set {F : Nat → Prop} {w : World} {g k : Nat} {v : Value} (hF : F g) : OnlyF F w (w.setCell ⟨g, k, none⟩ v) := ⟨rfl, rfl, rfl, by simp [World.setCell], fun j _ hn => Below.heap_setCell w ⟨g, k, none⟩ v j (fun q => hn (by have q : j = g := q; rw [q]; exact hF))⟩
theorem only_tr {F : Nat → Prop} {a b c : World} (h : OnlyF F a b) (k : OnlyF F b c) : OnlyF F a c := h.trans k (fun _ _ q => q)
end
section
open C Go.RowKit L

/-- What Set answers and leaves. -/
def SetQ (W D T : Nat) (bs : List Int) (f : FP) (i k : Int) (w : World) (e : Ending) (w' : World) : Prop :=
  (¬ (0 ≤ i ∧ i < ((W * D * T : Nat) : Int)) ∧ e = .returned (.int .i64 1) ∧ FA W D T bs f w' ∧ OnlyF f.own w w') ∨
  ((0 ≤ i ∧ i < ((W * D * T : Nat) : Int)) ∧ ¬ (0 ≤ k ∧ k ≤ 16) ∧ e = .returned (.int .i64 10) ∧ FA W D T bs f w' ∧ OnlyF f.own w w') ∨
  (∃ I : Nat, i = (I : Int) ∧ I < W * D * T ∧ (0 ≤ k ∧ k ≤ 16) ∧ e = .returned (.int .i64 0) ∧ FA W D T (bs.set I k) f w' ∧ OnlyF f.own w w')
theorem set_self {bs : List Int} {I : Nat} (h : I < bs.length) : bs.set I (bs.getD I 0) = bs := by
  refine C.getD_ext (by rw [List.length_set]) fun j hj => ?_
  by_cases q : I = j
  · subst q; rw [C.getD_set_self bs I _ h]
  · rw [C.getD_set_ne bs _ q]
theorem kinds_set {bs : List Int} (h : Kinds bs) {I : Nat} {k : Int} (hk : 0 ≤ k ∧ k ≤ 16) : Kinds (bs.set I k) := fun x hx => by
  rcases List.mem_or_eq_of_mem_set hx with q | q
  · exact h x q
  · rw [q]; exact hk
set_option maxRecDepth 1000000 in
set_option maxHeartbeats 8000000 in
theorem pset_c (W D T : Nat) (bs : List Int) (f : FP) (i k : Int) (w : World) (hT : Tabs w) (hA : FA W D T bs f w) (hk : Kinds bs) (hl : bs.length = W * D * T) :
    Calls Tryd.prog 14 #[.pointer (some ⟨f.p, 0, none⟩), .int .i64 i, .int .i64 k] w (SetQ W D T bs f i k w) := by
  obtain ⟨Post, hPost⟩ : ∃ Post, SetQ W D T bs f i k w = Post := ⟨_, rfl⟩
  rw [hPost]
  have Hr : OnlyF f.own w w := ⟨rfl, rfl, rfl, Nat.le_refl _, fun _ _ _ => rfl⟩
  have H1 : Hid (¬ (0 ≤ i ∧ i < ((W * D * T : Nat) : Int)) → Post (.returned (.int .i64 1)) w) := fun h => by rw [← hPost]; exact .inl ⟨h, rfl, hA, Hr⟩
  have H2 : Hid ((0 ≤ i ∧ i < ((W * D * T : Nat) : Int)) → ¬ (0 ≤ k ∧ k ≤ 16) → Post (.returned (.int .i64 10)) w) := fun h1 h2 => by rw [← hPost]; exact .inr (.inl ⟨h1, h2, rfl, hA, Hr⟩)
  have H3 : Hid (∀ (I : Nat) w', i = (I : Int) → I < W * D * T → (0 ≤ k ∧ k ≤ 16) → FA W D T (bs.set I k) f w' → OnlyF f.own w w' → Post (.returned (.int .i64 0)) w') := fun I w' h1 h2 h3 h4 h5 => by rw [← hPost]; exact .inr (.inr ⟨I, h1, h2, h3, rfl, h4, h5⟩)
  clear hPost
  have HA : Hid (FA W D T bs f w ∧ OnlyF f.own w w ∧ Tabs w) := ⟨hA, Hr, hT⟩
  obtain ⟨bx, sl, ll, hI, hs, hm⟩ := hA
  have HI : Hid (FI f W D T bs sl ll w ∧ LightOf (L.skyS W D T (fun j => bs.getD j 0) bx.w0 bx.d0) (W * D * T) sl ∧ LightOf (L.lampS W D T (fun j => bs.getD j 0) bx.w0 bx.d0) (W * D * T) ll ∧ Kinds bs ∧ bs.length = W * D * T) := ⟨hI, hs, hm, hk, hl⟩
  have c3 : w.cell? ⟨f.p, 3, none⟩ = some (.slice (some ⟨f.kb, 0, none⟩) (W * D * T) f.cap) := (hI.cell 3).trans rfl
  have hnb : W * D * T ≤ 294912 := Nat.le_trans (Nat.mul_le_mul (Nat.mul_le_mul bx.w1 bx.d1) bx.t1) (by decide)
  obtain ⟨n, hn⟩ : ∃ n, W * D * T = n := ⟨_, rfl⟩
  have Hn : Hid (W * D * T = n) := hn
  rw [hn] at c3 hnb H1 H2 H3
  clear hI hs hm hk hT Hr hn
  go_enter Tryd.func14, Tryd.ntmps14
  by_cases hi0 : 0 ≤ i
  case neg =>
    have R := H1.out (fun h => hi0 h.1)
    clear H1 H2 H3 HA HI
    go_wp2
    first | exact R | (go_ret; exact R)
  by_cases hin : i < (n : Int)
  case neg =>
    have R := H1.out (fun h => hin h.2)
    clear H1 H2 H3 HA HI
    go_wp2
    first | exact R | (go_ret; exact R)
  by_cases hk0 : 0 ≤ k
  case neg =>
    have R := H2.out ⟨hi0, hin⟩ (fun h => hk0 h.1)
    clear H1 H2 H3 HA HI
    go_wp2
    first | exact R | (go_ret; exact R)
  by_cases hk1 : k ≤ 16
  case neg =>
    have R := H2.out ⟨hi0, hin⟩ (fun h => hk1 h.2)
    clear H1 H2 H3 HA HI
    go_wp2
    first | exact R | (go_ret; exact R)
  obtain ⟨I, rfl⟩ := Int.eq_ofNat_of_zero_le hi0
  have hI : I < n := by omega
  have hbl : I < bs.length := by rw [hl, Hn.out]; exact hI
  have ck := HI.out.1.kp.cell (k := I) hbl
  have fk : w.frozen? ⟨f.kb, I, none⟩ = false := by
    obtain ⟨cu, hcu, _⟩ := HI.out.1.kp
    exact frozen_of_row w f.kb I cu 5 hcu
  have hkb := Kinds.at HI.out.2.2.2.1 I
  obtain ⟨A, hA⟩ : ∃ A, bs.getD I 0 = A := ⟨_, rfl⟩
  rw [hA] at ck hkb
  obtain ⟨a0, a16⟩ := hkb
  by_cases hke : k = A
  case pos =>
    have R := H3.out I w rfl hI ⟨hk0, hk1⟩ (by rw [hke, ← hA, set_self hbl]; exact HA.out.1) HA.out.2.1
    have Hke : Hid (bs.getD I 0 = A) := hA
    clear H1 H2 H3 HA HI hA
    subst hke
    go_wp2
    first | exact R | (go_ret; exact R)
  have wk : IntKind.u8.wrap k = k := wrap8 hk0 (by omega)
  -- the cell is set
  have hsk : (bs.set I k).length = W * D * T := by rw [List.length_set]; exact hl
  have hkk : Kinds (bs.set I k) := kinds_set HI.out.2.2.2.1 ⟨hk0, hk1⟩
  have HX : Hid (FI f W D T (bs.set I k) sl ll (w.setCell ⟨f.kb, I, none⟩ (.int .u8 k)) ∧ Tabs (w.setCell ⟨f.kb, I, none⟩ (.int .u8 k)) ∧ OnlyF f.own w (w.setCell ⟨f.kb, I, none⟩ (.int .u8 k))) := by
    have h := HI.out.1
    have ho : ∀ {b : Nat}, b ≠ f.kb → (w.setCell ⟨f.kb, I, none⟩ (.int .u8 k)).heap[b]? = w.heap[b]? := fun {b} hne => Below.heap_setCell w ⟨f.kb, I, none⟩ _ b hne
    have pk : ∀ {b : Nat} {cs : List Int}, Pre w b 5 cs → b ≠ f.kb → Pre (w.setCell ⟨f.kb, I, none⟩ (.int .u8 k)) b 5 cs := fun ⟨c, a, r⟩ hne => ⟨c, (ho hne).trans a, r⟩
    refine ⟨⟨(ho (pre_ne h.kp h.hp (by decide)).symm).trans h.hp, h.kp.set I k, pk h.sp h.n1.symm, pk h.lp h.n2.symm, h.n1, h.n2, h.n3, h.z0, h.z1, h.z2, h.z3⟩, ?_, only_set (.inr (.inl rfl))⟩
    obtain ⟨t, fr, h1⟩ := HA.out.2.2.kinds
    exact ⟨⟨t, fr, (ho (by have := h.z1; omega)).trans h1⟩⟩
  have HC : Hid (∀ i, i ≠ I → (bs.set I k).getD i 0 = bs.getD i 0) := fun i hi => C.getD_set_ne bs _ (fun q => hi q.symm)
  have HK : Hid ((bs.set I k).length = W * D * T ∧ Kinds (bs.set I k) ∧ I < n) := ⟨hsk, hkk, hI⟩
  clear H1 H2 hsk hkk hA
  go_upto_region 8 with fail
  clear c3 ck fk
  generalize w.setCell ⟨f.kb, I, none⟩ (.int .u8 k) = w1 at *
  have hx1 := renew_c (eSky f W D T (bs.set I k)) (HX.out.1.oSky bx HK.out.1 HK.out.2.1) bs sl I ⟨HI.out.2.2.2.2, HI.out.2.2.2.1, by have := HK.out.2.2; rw [← Hn.out] at this; exact this, HC.out⟩ HI.out.2.1 w1 (HX.out.1.mSky HX.out.2.1) HX.out.1.sp
  have hr1 : Calls Tryd.prog 22 #[.pointer (some ⟨f.p, 4, none⟩), .int .i64 (I : Int)] w1 fun x w' => x = .returned (.tuple #[]) ∧ ∃ ls', LightOf (L.skyS W D T (fun j => (bs.set I k).getD j 0) bx.w0 bx.d0) (W * D * T) ls' ∧ Pre w' f.sb 5 ls' ∧ w1.grownBy w' (some f.sb) := hx1
  clear hx1
  go_wp2_with fail
  refine hr1.mono ?_
  rintro _ w2 ⟨rfl, sl', hL1, hP1, hg1⟩
  have HX2 : Hid (FI f W D T (bs.set I k) sl' ll w2 ∧ Tabs w2 ∧ OnlyF f.own w w2 ∧ LightOf (L.skyS W D T (fun j => (bs.set I k).getD j 0) bx.w0 bx.d0) (W * D * T) sl') := by
    obtain ⟨h, ht, ho⟩ := HX.out
    exact ⟨⟨(hg1.block f.p (Array.getElem?_eq_some_iff.1 h.hp).1 (fun q => by injection q with q; exact (pre_ne h.sp h.hp (by decide)) q.symm)).trans h.hp, h.kp.grown hg1 h.n1, hP1, h.lp.grown hg1 h.n3.symm, h.n1, h.n2, h.n3, h.z0, h.z1, h.z2, h.z3⟩, ht.grown hg1 h.z2, only_tr ho (only_grown hg1 (.inr (.inr (.inl rfl)))), hL1⟩
  clear HX hr1 hL1 hP1 hg1
  have hx2 := renew_c (eLamp f W D T (bs.set I k)) (HX2.out.1.oLamp bx HK.out.1 HK.out.2.1) bs ll I ⟨HI.out.2.2.2.2, HI.out.2.2.2.1, by have := HK.out.2.2; rw [← Hn.out] at this; exact this, HC.out⟩ HI.out.2.2.1 w2 (HX2.out.1.mLamp HX2.out.2.1) HX2.out.1.lp
  have hr2 : Calls Tryd.prog 22 #[.pointer (some ⟨f.p, 7, none⟩), .int .i64 (I : Int)] w2 fun x w' => x = .returned (.tuple #[]) ∧ ∃ ls', LightOf (L.lampS W D T (fun j => (bs.set I k).getD j 0) bx.w0 bx.d0) (W * D * T) ls' ∧ Pre w' f.lb 5 ls' ∧ w2.grownBy w' (some f.lb) := hx2
  clear hx2
  go_wp2_with fail
  refine hr2.mono ?_
  rintro _ w3 ⟨rfl, ll', hL2, hP2, hg2⟩
  have R := H3.out I w3 rfl hI ⟨hk0, hk1⟩ (by
    obtain ⟨h, ht, ho, hL⟩ := HX2.out
    exact ⟨bx, sl', ll', ⟨(hg2.block f.p (Array.getElem?_eq_some_iff.1 h.hp).1 (fun q => by injection q with q; exact (pre_ne h.lp h.hp (by decide)) q.symm)).trans h.hp, h.kp.grown hg2 h.n2, h.sp.grown hg2 h.n3, hP2, h.n1, h.n2, h.n3, h.z0, h.z1, h.z2, h.z3⟩, hL, hL2⟩) (only_tr HX2.out.2.2.1 (only_grown hg2 (.inr (.inr (.inr rfl)))))
  clear HX2 hr2 hL2 hP2 hg2 H3 HA HI HC HK
  go_wp2
  first | exact R | (go_ret; exact R)
end
end Go.Proofs.YtmfjmcaaoljjlaaDoor
