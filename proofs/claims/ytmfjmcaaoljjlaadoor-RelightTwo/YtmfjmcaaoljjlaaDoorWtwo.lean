/-
  RelightTwo: two fields that were set to the same cells in unlike ways have the same light.
-/
import Derived.Test.YtmfjmcaaoljjlaaDoorWd
import Derived.Lib.Bytes
set_option maxRecDepth 20000
namespace Go.Proofs.YtmfjmcaaoljjlaaDoor
open C Go.RowKit L
attribute [local go_sem] Oper.semAt_some

theorem text_inj {es ms : List Int} (he : Kinds es) (hm : Kinds ms) (h : (strOfNums es).toList = (strOfNums ms).toList) : es = ms := by
  have h1 : es.map (fun n => UInt8.ofNat n.toNat) = ms.map (fun n => UInt8.ofNat n.toNat) := by
    have h0 := h
    rw [Lib.strOfNums_toList, Lib.strOfNums_toList] at h0
    exact h0
  have hl : es.length = ms.length := by have := congrArg List.length h1; simpa using this
  refine C.getD_ext hl fun j hj => ?_
  have h2 := congrArg (fun l => l[j]?) h1
  simp only [List.getElem?_map, List.getElem?_eq_getElem hj, List.getElem?_eq_getElem (show j < ms.length by omega), Option.map_some, Option.some.injEq] at h2
  have a1 := he _ (List.getElem_mem hj)
  have a2 := hm _ (List.getElem_mem (show j < ms.length by omega))
  have h3 := congrArg UInt8.toNat h2
  simp only [UInt8.toNat_ofNat'] at h3
  rw [List.getD_eq_getElem?_getD, List.getD_eq_getElem?_getD, List.getElem?_eq_getElem hj, List.getElem?_eq_getElem (show j < ms.length by omega)]
  simp only [Option.getD_some]
  omega
theorem newas_any {W D T : Int} {n : Nat} {bs : List Int} {w : World} {R : Nat → World → Prop} {e : Ending} {w' : World} (h : NewAs W D T n bs w R e w') : ∃ (a : Option Addr) (cc : Int), e = .returned (.tuple #[.pointer a, .int .i64 cc]) ∧ Below w.heap.size w w' := by
  rcases h with ⟨_, e, hb⟩ | ⟨_, _, e, hb⟩ | ⟨_, _, g, e, _, hb⟩
  · exact ⟨none, 1, e, hb⟩
  · exact ⟨none, 10, e, hb⟩
  · exact ⟨some ⟨g, 0, none⟩, 0, e, hb⟩
/-- Two cells, read. -/
structure Cell2 (b o b2 o2 : Nat) (A B : Int) (w : World) : Prop where
  a : w.cell? ⟨b, o, none⟩ = some (.int .u8 A)
  b : w.cell? ⟨b2, o2, none⟩ = some (.int .u8 B)
/-- The two fields while the cells are set. -/
structure Twn (J : JSpec) (w0 : World) (W D T : Nat) (ms : List Int) (p q : Nat) (w : World) : Prop where
  x : ∃ es F G, Duo J w0 W D T es ms p q F G w ∧ Kinds es ∧ es.length = W * D * T
set_option maxRecDepth 1000000 in
set_option maxHeartbeats 16000000 in
theorem relightTwo_walk (J : JSpec) (W D T : Int) (a am : Option Addr) (n c nm cm : Nat) (bs ms : List Int) (w : World) (hG : J.G w) (hn : n ≤ 9223372036854775807) (hnm : nm ≤ 9223372036854775807) (hS : Src w a n bs) (hM : Src w am nm ms) :
    Calls Tryd.prog 8 #[.int .i64 W, .int .i64 D, .int .i64 T, .slice a n c, .slice am nm cm] w fun e w' => e = .returned (.bool true) ∧ Below w.heap.size w w' := by
  obtain ⟨Post, hPost⟩ : ∃ Post : Ending → World → Prop, Post = fun e w' => e = .returned (.bool true) ∧ Below w.heap.size w w' := ⟨_, rfl⟩
  rw [← hPost]
  have HP : Hid (∀ w', Below w.heap.size w w' → Post (.returned (.bool true)) w') := fun w' h => by rw [hPost]; exact ⟨rfl, h⟩
  clear hPost
  have HSr : Hid (Src w a n bs) := hS
  have HSm : Hid (Src w am nm ms) := hM
  have haw := awake_c J w hG
  clear hS hM hG
  go_enter Tryd.func8, Tryd.ntmps8
  go_wp2_with fail
  refine haw.mono ?_
  rintro _ w1 ⟨rfl, hG1, hb1⟩
  have H1 : Hid (J.G w1 ∧ Below w.heap.size w w1) := ⟨hG1, hb1⟩
  clear haw hG1 hb1
  by_cases hn2 : n ≤ 2000
  case neg =>
    have R := HP.out w1 H1.out.2
    clear HP HSr HSm H1
    go_wp2
    first | exact R | (go_ret; exact R)
  by_cases hnn : n = nm
  case neg =>
    have hnn1 : ((n : Int) != (nm : Int)) = true := by simpa using (fun q : (n : Int) = (nm : Int) => hnn (by omega))
    have R := HP.out w1 H1.out.2
    clear HP HSr HSm H1
    go_wp2
    first | exact R | (go_ret; exact R)
  obtain rfl := hnn
  clear hnm
  have hnew := J.new W D T a n c bs w1 H1.out.1 (by omega) (HSr.out.below H1.out.2)
  go_wp2_with fail
  refine hnew.mono ?_
  clear hnew
  intro e2 w2 hnw
  have hnew2 := J.new W D T am n cm ms w2
  by_cases hok : OkDims W D T n ∧ Kinds bs
  case neg =>
    obtain ⟨cc, hcc, rfl, hb2⟩ := newas_no hnw hok
    have hb02 := H1.out.2.trans (hb2.mono H1.out.2.size)
    replace hnew2 := hnew2 (J.gon H1.out.1 hb2) (by omega) (HSm.out.below hb02)
    have hc0 : ¬ cc = 0 := by rcases hcc with ⟨q, _⟩ | ⟨q, _⟩ <;> omega
    have hc1 : (cc != 0) = true := by simpa using hc0
    clear hnw hcc hc0
    go_wp2_with fail
    refine hnew2.mono ?_
    clear hnew2
    intro e3 w3 hnw2
    obtain ⟨pv, cd, rfl, hb3⟩ := newas_any hnw2
    have R := HP.out w3 (hb02.trans (hb3.mono hb02.size))
    clear hnw2 hb2 hb3 hb02 HP HSr HSm H1 hok
    go_wp2
    first | exact R | (go_ret; exact R)
  obtain ⟨p, rfl, ⟨F, W1, D1, T1, rfl, rfl, rfl, hA, hF⟩, hb2⟩ := newas_ok hnw hok.1 hok.2
  have hb02 := H1.out.2.trans (hb2.mono H1.out.2.size)
  have HJ2 : Hid (Fj J w W1 D1 T1 bs p F w2) := ⟨J.gon H1.out.1 hb2, hA, hb02, fun j hj => Nat.le_trans H1.out.2.size (hF j hj)⟩
  have HB : Hid (Bx W1 D1 T1 ∧ n = W1 * D1 * T1 ∧ Kinds bs ∧ bs.length = W1 * D1 * T1) := ⟨(dims_bx hok.1).1, (dims_bx hok.1).2, hok.2, by rw [HSr.out.len]; exact (dims_bx hok.1).2⟩
  replace hnew2 := hnew2 HJ2.out.g (by omega) (HSm.out.below hb02)
  have Hok : Hid (OkDims (W1 : Int) (D1 : Int) (T1 : Int) n) := hok.1
  clear hnw hA hF hb2 hb02 hok H1
  go_wp2_with fail
  refine hnew2.mono ?_
  clear hnew2
  intro e3 w3 hnw2
  by_cases hkm : Kinds ms
  case neg =>
    obtain ⟨cc, hcc, rfl, hb3⟩ := newas_no hnw2 (fun q => hkm q.2)
    have hc0 : ¬ cc = 0 := by rcases hcc with ⟨q, _⟩ | ⟨q, _⟩ <;> omega
    have hc1 : (cc != 0) = true := by simpa using hc0
    have R := HP.out w3 (HJ2.out.on hb3).b
    clear hnw2 hcc hc0 hb3 HP HSr HSm HJ2 HB Hok hkm
    go_wp2
    first | exact R | (go_ret; exact R)
  obtain ⟨q, rfl, ⟨G, W2, D2, T2, hW2, hD2, hT2, hA2, hF2⟩, hb3⟩ := newas_ok hnw2 Hok.out hkm
  obtain rfl : W1 = W2 := by omega
  obtain rfl : D1 = D2 := by omega
  obtain rfl : T1 = T2 := by omega
  have HX : Hid (Twn J w W1 D1 T1 ms p q w3) := ⟨bs, F, G, duo_new HJ2.out hb3 hA2 hF2, HB.out.2.2.1, HB.out.2.2.2⟩
  have HM : Hid (Kinds ms ∧ ms.length = W1 * D1 * T1) := ⟨hkm, by rw [HSm.out.len]; exact HB.out.2.1⟩
  clear hnw2 hW2 hD2 hT2 hA2 hF2 hb3 HJ2 Hok hkm
  go_wp2_with fail
  go_loopw [16, 17] (fun vs vx wr => ∃ i k : Nat, i ≤ n ∧ k ≤ 80 ∧ vx = .int .i64 (i : Int) ∧ vs = .int .i64 (k : Int) ∧ Hid (Twn J w W1 D1 T1 ms p q wr)) (fun _ vx _ => n - (intOf vx).toNat)
  case atStart => exact ⟨0, 0, by omega, by omega, rfl, rfl, HX.out⟩
  case round =>
    clear HX
    obtain ⟨i, k, hi, hk, rfl, rfl, HI⟩ := hrel
    by_cases hxk : i < n ∧ k < 80
    case pos =>
      obtain ⟨hx, hk8⟩ := hxk
      have hx' : (i : Int) < (n : Int) := by omega
      have hk8' : (k : Int) < 80 := by omega
      have wi : IntKind.i64.wrap ((i : Int) + 1) = ((i + 1 : Nat) : Int) := by rw [IntKind.wrap_i64]; omega
      have wk : IntKind.i64.wrap ((k : Int) + 1) = ((k + 1 : Nat) : Int) := by rw [IntKind.wrap_i64]; omega
      obtain ⟨b, off, rfl, hlt, hck⟩ := HSr.out.cells i hx
      obtain ⟨b2, off2, rfl, hlt2, hck2⟩ := HSm.out.cells i hx
      have hkb := Kinds.at HM.out.1 i
      obtain ⟨A, hA⟩ : ∃ A, bs.getD i 0 = A := ⟨_, rfl⟩
      obtain ⟨B, hB⟩ : ∃ B, ms.getD i 0 = B := ⟨_, rfl⟩
      rw [hA] at hck
      rw [hB] at hck2 hkb
      obtain ⟨b0, b16⟩ := hkb
      have wB : IntKind.i64.wrap B = B := by rw [IntKind.wrap_i64]; omega
      have Hck : Hid (∀ w', Below w.heap.size w w' → Cell2 b (off + i) b2 (off2 + i) A B w') := fun w' hb => ⟨(hb.cell (p := ⟨b, off + i, none⟩) hlt).trans hck, (hb.cell (p := ⟨b2, off2 + i, none⟩) hlt2).trans hck2⟩
      clear hA hB hlt hlt2 hck hck2
      obtain ⟨es, F5, G5, hduo, hke, hle⟩ := HI.out.x
      have HD : Hid (Duo J w W1 D1 T1 es ms p q F5 G5 wr ∧ Kinds es ∧ es.length = W1 * D1 * T1) := ⟨hduo, hke, hle⟩
      clear hduo hke hle HI
      go_upto_region 12 with fail
      refine region_L (Cell2 b (off + i) b2 (off2 + i) A B) 99 (by kernel_rfl) ?_
      have hd : Below wr.heap.size wr wr.drew := (Below.refl _ wr).drew
      have HD2 : Hid (Duo J w W1 D1 T1 es ms p q F5 G5 wr.drew ∧ Kinds es ∧ es.length = W1 * D1 * T1) := ⟨HD.out.1.on hd, HD.out.2⟩
      clear HD hd
      generalize wr.drew = va at *
      have hHeld := Hck.out va HD2.out.1.f.b
      have hne : Nonempty (Sub (Cell2 b (off + i) b2 (off2 + i) A B)) := ⟨⟨_, hHeld⟩⟩
      have k1 : ∀ s : Sub (Cell2 b (off + i) b2 (off2 + i) A B), s.w.cell? ⟨b, off + i, none⟩ = some (.int .u8 A) := fun s => s.ok.a
      have k2 : ∀ s : Sub (Cell2 b (off + i) b2 (off2 + i) A B), s.w.cell? ⟨b2, off2 + i, none⟩ = some (.int .u8 B) := fun s => s.ok.b
      refine take_L (i := 0) rfl (by kernel_rfl) (by kernel_rfl) (by kernel_rfl) (by kernel_rfl) (fun _ _ _ _ h => h) (by exact hHeld) (fun K hK => ?_)
      go_simp
      refine hK _ ?_
      clear hK K
      refine take_L (i := 1) rfl (by kernel_rfl) (by kernel_rfl) (by kernel_rfl) (by kernel_rfl) (fun _ _ _ _ h => h) (by exact hHeld) (fun K hK => ?_)
      go_simp
      refine hK _ ?_
      clear hK K
      refine take_L (i := 2) rfl (by kernel_rfl) (by kernel_rfl) (by kernel_rfl) (by kernel_rfl) (fun _ _ _ _ h => h) (by exact hHeld) (fun K hK => ?_)
      go_simp
      refine hK _ ?_
      clear hK K
      refine take_L (i := 3) rfl (by kernel_rfl) (by kernel_rfl) (by kernel_rfl) (by kernel_rfl) (fun _ _ _ _ h => h) (by exact hHeld) (fun K hK => ?_)
      go_simp
      refine hK _ ?_
      clear hK K
      refine take_L (i := 4) rfl (by kernel_rfl) (by kernel_rfl) (by kernel_rfl) (by kernel_rfl) (fun _ _ _ _ h => h) (by exact hHeld) (fun K hK => ?_)
      go_simp
      refine hK _ ?_
      clear hK K
      refine take_L (i := 5) rfl (by kernel_rfl) (by kernel_rfl) (by kernel_rfl) (by kernel_rfl) (fun _ _ _ _ h => h) (by exact hHeld) (fun K hK => ?_)
      go_simp
      refine hK _ ?_
      clear hK K
      refine take_L (i := 6) rfl (by kernel_rfl) (by kernel_rfl) (by kernel_rfl) (by kernel_rfl) (fun _ _ _ _ h => h) (by exact hHeld) (fun K hK => ?_)
      go_simp
      refine hK _ ?_
      clear hK K
      refine take_L (i := 7) rfl (by kernel_rfl) (by kernel_rfl) (by kernel_rfl) (by kernel_rfl) (fun _ _ _ _ h => h) (by exact hHeld) (fun K hK => ?_)
      go_simp
      refine hK _ ?_
      clear hK K
      refine take_L (i := 8) rfl (by kernel_rfl) (by kernel_rfl) (by kernel_rfl) (by kernel_rfl) (fun _ _ _ _ h => h) (by exact hHeld) (fun K hK => ?_)
      go_simp
      refine hK _ ?_
      clear hK K
      refine done_L (by kernel_rfl) ?_ _
      clear hne k1 k2
      by_cases hAB : A = B
      case pos =>
        subst hAB
        have HE : Hid (Twn J w W1 D1 T1 ms p q va) := ⟨es, F5, G5, HD2.out⟩
        clear HP HSr HSm HD2 HB HM Hck hHeld
        go_wp2
        exact ⟨⟨i + 1, k, by omega, by omega, by simp, rfl, HE⟩, by simp [intOf]; omega⟩
      have hAB' : (A != B) = true := by simpa using hAB
      have ckB := hHeld.b
      have hset := HD2.out.1.f.op HB.out.1 HD2.out.2.1 HD2.out.2.2 (i : Int) B
      clear hHeld
      go_wp2_with fail
      refine hset.mono ?_
      clear hset
      rintro _ w4 ⟨rc, F6, rfl, _, _, ho, hs, hf1⟩
      have HE : Hid (Twn J w W1 D1 T1 ms p q w4) := ⟨_, F6, G5, HD2.out.1.stepF ho hs hf1, opS_kinds HD2.out.2.1 _ B, by rw [opS_len]; exact HD2.out.2.2⟩
      clear HP HSr HSm HD2 HB HM Hck ho hs hf1 ckB
      go_wp2
      exact ⟨⟨i + 1, k + 1, by omega, by omega, by simp, by simp, HE⟩, by simp [intOf]; omega⟩
    by_cases hx : i < n
    case pos =>
      have hx' : (i : Int) < (n : Int) := by omega
      have hk8' : ¬ (k : Int) < 80 := by omega
      clear hx hxk
      obtain ⟨es, F5, G5, hduo, hke, hle⟩ := HI.out.x
      have HD : Hid (Duo J w W1 D1 T1 es ms p q F5 G5 wr) := hduo
      have HK : Hid (Kinds es ∧ es.length = W1 * D1 * T1) := ⟨hke, hle⟩
      clear hduo hke hle HI
      go_upto_region 15 with fail
      refine region_L (fun W => Src W am n ms) 99 (by kernel_rfl) ?_
      have hd : Below wr.heap.size wr wr.drew := (Below.refl _ wr).drew
      have HD0 : Hid (Duk J w W1 D1 T1 es ms p q F5 G5 [] wr.drew) := (HD.out.on hd).duk
      clear HD hd
      generalize wr.drew = va at *
      have hHeld : Src va am n ms := HSm.out.below HD0.out.d.f.b
      have hne : Nonempty (Sub (fun W => Src W am n ms)) := ⟨⟨_, hHeld⟩⟩
      obtain ⟨ZM, hZ⟩ : ∃ Z, strOfNums ms = Z := ⟨_, rfl⟩
      have HZM : Hid (strOfNums ms = ZM) := hZ
      clear hZ
      have k1 : ∀ s : Sub (fun W => Src W am n ms), (convert 22 9 (.slice am n cm)).run Tryd.prog s.w = .ok (.string ZM) s.w := fun s => by rw [← HZM.out]; exact conv_c s.ok
      refine take_L (i := 0) rfl (by kernel_rfl) (by kernel_rfl) (by kernel_rfl) (by kernel_rfl) (fun _ _ _ _ h => h) (by exact hHeld) (fun K hK => ?_)
      go_simp
      refine hK _ ?_
      clear hK K
      refine take_L (i := 3) rfl (by kernel_rfl) (by kernel_rfl) (by kernel_rfl) (by kernel_rfl) (fun _ _ _ _ h => h) (by exact hHeld) (fun K hK => ?_)
      go_simp
      refine hK _ ?_
      clear hK K
      refine take_L (i := 4) rfl (by kernel_rfl) (by kernel_rfl) (by kernel_rfl) (by kernel_rfl) (fun _ _ _ _ h => h) (by exact hHeld) (fun K hK => ?_)
      go_simp
      refine hK _ ?_
      clear hK K
      have hc := Duk.kindsF HB.out.1 HB.out.2.1 HD0.out HK.out.1 HK.out.2
      refine one_L (i := 1) (by kernel_rfl) rfl (fun K hK => ?_)
      go_simp
      refine hc.mono ?_
      clear hc
      rintro _ u1 ⟨g1, c1, F6, rfl, hd1⟩
      obtain ⟨ZE, hZ⟩ : ∃ Z, strOfNums es = Z := ⟨_, rfl⟩
      have HZE : Hid (strOfNums es = ZE) := hZ
      clear hZ
      have kt : (convert 22 9 (.slice (some ⟨g1, 0, none⟩) n c1)).run Tryd.prog u1 = .ok (.string ZE) u1 := by rw [← HZE.out]; exact pre_text (hd1.k (g1, es) (List.mem_cons_self ..)) (HK.out.2.trans HB.out.2.1.symm) HK.out.1
      have HD : Hid (Duo J w W1 D1 T1 es ms p q F6 G5 u1) := hd1.d
      replace hHeld : Src u1 am n ms := HSm.out.below HD.out.f.b
      refine hK.out _ _ (fun _ => hHeld) ?_
      clear hK K hd1 HD0
      refine one_L (i := 2) (by kernel_rfl) rfl (fun K hK => ?_)
      go_simp
      refine hK.out _ _ (fun _ => hHeld) ?_
      clear hK K kt
      by_cases hZE : ZE.toList = ZM.toList
      case pos =>
        obtain rfl : es = ms := text_inj HK.out.1 HM.out.1 (by rw [HZE.out, HZM.out, hZE])
        obtain rfl : ZE = ZM := by rw [← HZE.out, ← HZM.out]
        refine one_L (i := 5) (by kernel_rfl) rfl (fun K hK => ?_)
        go_simp
        refine hK.out _ _ (fun _ => hHeld) ?_
        clear hK K
        refine one_L (i := 6) (by kernel_rfl) rfl (fun K hK => ?_)
        go_simp
        refine hK.out _ _ (fun _ => hHeld) ?_
        clear hK K hHeld hne k1 HZE HZM
        refine done_L (by kernel_rfl) ?_ _
        go_upto_region 16 with fail
        refine region_L (Kp []) 99 (by kernel_rfl) ?_
        have hd : Below u1.heap.size u1 u1.drew := (Below.refl _ u1).drew
        have HD0 : Hid (Duk J w W1 D1 T1 es es p q F6 G5 [] u1.drew) := (HD.out.on hd).duk
        clear HD hd
        generalize u1.drew = vb at *
        have hHeld := HD0.out.k
        have hne : Nonempty (Sub (Kp [])) := ⟨⟨_, hHeld⟩⟩
        refine take_L (i := 0) rfl (by kernel_rfl) (by kernel_rfl) (by kernel_rfl) (by kernel_rfl) (fun _ _ _ _ h => h) (by exact hHeld) (fun K hK => ?_)
        go_simp
        refine hK _ ?_
        clear hK K
        refine take_L (i := 1) rfl (by kernel_rfl) (by kernel_rfl) (by kernel_rfl) (by kernel_rfl) (fun _ _ _ _ h => h) (by exact hHeld) (fun K hK => ?_)
        go_simp
        refine hK _ ?_
        clear hK K
        refine take_L (i := 2) rfl (by kernel_rfl) (by kernel_rfl) (by kernel_rfl) (by kernel_rfl) (fun _ _ _ _ h => h) (by exact hHeld) (fun K hK => ?_)
        go_simp
        refine hK _ ?_
        clear hK K
        refine take_L (i := 3) rfl (by kernel_rfl) (by kernel_rfl) (by kernel_rfl) (by kernel_rfl) (fun _ _ _ _ h => h) (by exact hHeld) (fun K hK => ?_)
        go_simp
        refine hK _ ?_
        clear hK K
        refine take_L (i := 6) rfl (by kernel_rfl) (by kernel_rfl) (by kernel_rfl) (by kernel_rfl) (fun _ _ _ _ h => h) (by exact hHeld) (fun K hK => ?_)
        go_simp
        refine hK _ ?_
        clear hK K
        have hc := Duk.skyF HB.out.1 HB.out.2.1 HD0.out HK.out.1 HK.out.2
        refine one_L (i := 4) (by kernel_rfl) rfl (fun K hK => ?_)
        go_simp
        refine hc.mono ?_
        clear hc
        rintro _ u1 ⟨g1, c1, H1, r1, rfl, hl1, hd1⟩
        have HLsky : Hid (LightOf (L.skyS W1 D1 T1 (fun j => es.getD j 0) HB.out.1.w0 HB.out.1.d0) n r1) := hl1
        obtain ⟨Zsky, hZ⟩ : ∃ Z, strOfNums r1 = Z := ⟨_, rfl⟩
        have HZsky : Hid (strOfNums r1 = Zsky) := hZ
        clear hZ
        clear hl1
        have kt1 : ∀ s : Sub (Kp ((g1, r1) :: [])), (convert 22 9 (.slice (some ⟨g1, 0, none⟩) n c1)).run Tryd.prog s.w = .ok (.string Zsky) s.w := kp_text HLsky.out.len (lv_kinds HLsky.out) HZsky.out
        have HD1 : Hid (Duk J w W1 D1 T1 es es p q H1 G5 ((g1, r1) :: []) u1) := hd1
        replace hHeld : Kp ((g1, r1) :: []) u1 := HD1.out.k
        refine hK.out _ _ (fun _ => kp_more _ hHeld) ?_
        clear hK K hd1 HD0 hne
        refine wpAnyL_strong (S' := Kp ((g1, r1) :: [])) kp_more _ _ _ _ ?_
        have hne : Nonempty (Sub (Kp ((g1, r1) :: []))) := ⟨⟨_, hHeld⟩⟩
        refine take_L (i := 5) rfl (by kernel_rfl) (by kernel_rfl) (by kernel_rfl) (by kernel_rfl) (fun _ _ _ _ h => h) (by exact hHeld) (fun K hK => ?_)
        go_simp
        refine hK _ ?_
        clear hK K
        have hc := Duk.skyG HB.out.1 HB.out.2.1 HD1.out HK.out.1 HK.out.2
        refine one_L (i := 7) (by kernel_rfl) rfl (fun K hK => ?_)
        go_simp
        refine hc.mono ?_
        clear hc kt1
        rintro _ u2 ⟨g2, c2, H2, r2, rfl, hl2, hd2⟩
        have e2 : r2 = r1 := hl2.same HB.out.2.1.symm HLsky.out
        rw [e2] at hd2
        clear e2
        clear hl2
        have kt2 : ∀ s : Sub (Kp ((g2, r1) :: ((g1, r1) :: []))), (convert 22 9 (.slice (some ⟨g2, 0, none⟩) n c2)).run Tryd.prog s.w = .ok (.string Zsky) s.w := kp_text HLsky.out.len (lv_kinds HLsky.out) HZsky.out
        have HD2 : Hid (Duk J w W1 D1 T1 es es p q H1 H2 ((g2, r1) :: ((g1, r1) :: [])) u2) := hd2
        replace hHeld : Kp ((g2, r1) :: ((g1, r1) :: [])) u2 := HD2.out.k
        refine hK.out _ _ (fun _ => kp_more _ hHeld) ?_
        clear hK K hd2 HD1 hne
        refine wpAnyL_strong (S' := Kp ((g2, r1) :: ((g1, r1) :: []))) kp_more _ _ _ _ ?_
        have hne : Nonempty (Sub (Kp ((g2, r1) :: ((g1, r1) :: [])))) := ⟨⟨_, hHeld⟩⟩
        refine take_L (i := 8) rfl (by kernel_rfl) (by kernel_rfl) (by kernel_rfl) (by kernel_rfl) (fun _ _ _ _ h => h) (by exact hHeld) (fun K hK => ?_)
        go_simp
        refine hK _ ?_
        clear hK K
        refine take_L (i := 9) rfl (by kernel_rfl) (by kernel_rfl) (by kernel_rfl) (by kernel_rfl) (fun _ _ _ _ h => h) (by exact hHeld) (fun K hK => ?_)
        go_simp
        refine hK _ ?_
        clear hK K
        refine take_L (i := 10) rfl (by kernel_rfl) (by kernel_rfl) (by kernel_rfl) (by kernel_rfl) (fun _ _ _ _ h => h) (by exact hHeld) (fun K hK => ?_)
        go_simp
        refine hK _ ?_
        clear hK K
        refine take_L (i := 11) rfl (by kernel_rfl) (by kernel_rfl) (by kernel_rfl) (by kernel_rfl) (fun _ _ _ _ h => h) (by exact hHeld) (fun K hK => ?_)
        go_simp
        refine hK _ ?_
        clear hK K
        refine take_L (i := 14) rfl (by kernel_rfl) (by kernel_rfl) (by kernel_rfl) (by kernel_rfl) (fun _ _ _ _ h => h) (by exact hHeld) (fun K hK => ?_)
        go_simp
        refine hK _ ?_
        clear hK K
        have hc := Duk.lampF HB.out.1 HB.out.2.1 HD2.out HK.out.1 HK.out.2
        refine one_L (i := 12) (by kernel_rfl) rfl (fun K hK => ?_)
        go_simp
        refine hc.mono ?_
        clear hc kt2
        rintro _ u3 ⟨g3, c3, H3, r3, rfl, hl3, hd3⟩
        have HLlamp : Hid (LightOf (L.lampS W1 D1 T1 (fun j => es.getD j 0) HB.out.1.w0 HB.out.1.d0) n r3) := hl3
        obtain ⟨Zlamp, hZ⟩ : ∃ Z, strOfNums r3 = Z := ⟨_, rfl⟩
        have HZlamp : Hid (strOfNums r3 = Zlamp) := hZ
        clear hZ
        clear hl3
        have kt3 : ∀ s : Sub (Kp ((g3, r3) :: ((g2, r1) :: ((g1, r1) :: [])))), (convert 22 9 (.slice (some ⟨g3, 0, none⟩) n c3)).run Tryd.prog s.w = .ok (.string Zlamp) s.w := kp_text HLlamp.out.len (lv_kinds HLlamp.out) HZlamp.out
        have HD3 : Hid (Duk J w W1 D1 T1 es es p q H3 H2 ((g3, r3) :: ((g2, r1) :: ((g1, r1) :: []))) u3) := hd3
        replace hHeld : Kp ((g3, r3) :: ((g2, r1) :: ((g1, r1) :: []))) u3 := HD3.out.k
        refine hK.out _ _ (fun _ => kp_more _ hHeld) ?_
        clear hK K hd3 HD2 hne
        refine wpAnyL_strong (S' := Kp ((g3, r3) :: ((g2, r1) :: ((g1, r1) :: [])))) kp_more _ _ _ _ ?_
        have hne : Nonempty (Sub (Kp ((g3, r3) :: ((g2, r1) :: ((g1, r1) :: []))))) := ⟨⟨_, hHeld⟩⟩
        refine take_L (i := 13) rfl (by kernel_rfl) (by kernel_rfl) (by kernel_rfl) (by kernel_rfl) (fun _ _ _ _ h => h) (by exact hHeld) (fun K hK => ?_)
        go_simp
        refine hK _ ?_
        clear hK K
        have hc := Duk.lampG HB.out.1 HB.out.2.1 HD3.out HK.out.1 HK.out.2
        refine one_L (i := 15) (by kernel_rfl) rfl (fun K hK => ?_)
        go_simp
        refine hc.mono ?_
        clear hc kt3
        rintro _ u4 ⟨g4, c4, H4, r4, rfl, hl4, hd4⟩
        have e4 : r4 = r3 := hl4.same HB.out.2.1.symm HLlamp.out
        rw [e4] at hd4
        clear e4
        clear hl4
        have kt4 : ∀ s : Sub (Kp ((g4, r3) :: ((g3, r3) :: ((g2, r1) :: ((g1, r1) :: []))))), (convert 22 9 (.slice (some ⟨g4, 0, none⟩) n c4)).run Tryd.prog s.w = .ok (.string Zlamp) s.w := kp_text HLlamp.out.len (lv_kinds HLlamp.out) HZlamp.out
        have HD4 : Hid (Duk J w W1 D1 T1 es es p q H3 H4 ((g4, r3) :: ((g3, r3) :: ((g2, r1) :: ((g1, r1) :: [])))) u4) := hd4
        replace hHeld : Kp ((g4, r3) :: ((g3, r3) :: ((g2, r1) :: ((g1, r1) :: [])))) u4 := HD4.out.k
        refine hK.out _ _ (fun _ => kp_more _ hHeld) ?_
        clear hK K hd4 HD3 hne
        refine wpAnyL_strong (S' := Kp ((g4, r3) :: ((g3, r3) :: ((g2, r1) :: ((g1, r1) :: []))))) kp_more _ _ _ _ ?_
        have hne : Nonempty (Sub (Kp ((g4, r3) :: ((g3, r3) :: ((g2, r1) :: ((g1, r1) :: [])))))) := ⟨⟨_, hHeld⟩⟩
        refine take_L (i := 16) rfl (by kernel_rfl) (by kernel_rfl) (by kernel_rfl) (by kernel_rfl) (fun _ _ _ _ h => h) (by exact hHeld) (fun K hK => ?_)
        go_simp
        refine hK _ ?_
        clear hK K
        refine take_L (i := 17) rfl (by kernel_rfl) (by kernel_rfl) (by kernel_rfl) (by kernel_rfl) (fun _ _ _ _ h => h) (by exact hHeld) (fun K hK => ?_)
        go_simp
        refine hK _ ?_
        clear hK K
        refine take_L (i := 18) rfl (by kernel_rfl) (by kernel_rfl) (by kernel_rfl) (by kernel_rfl) (fun _ _ _ _ h => h) (by exact hHeld) (fun K hK => ?_)
        go_simp
        refine hK _ ?_
        clear hK K
        refine take_L (i := 19) rfl (by kernel_rfl) (by kernel_rfl) (by kernel_rfl) (by kernel_rfl) (fun _ _ _ _ h => h) (by exact hHeld) (fun K hK => ?_)
        go_simp
        refine hK _ ?_
        clear hK K
        refine one_L (i := 20) (by kernel_rfl) rfl (fun K hK => ?_)
        go_simp
        refine hK.out _ _ (fun _ => hHeld) ?_
        clear hK K
        refine done_L (by kernel_rfl) ?_ _
        have R := HP.out u4 HD4.out.d.f.b
        clear HP HD4 HB HK HM HSr HSm hne hHeld kt4 HLsky HLlamp HZsky HZlamp
        go_wp2
        first | exact R | (go_ret; exact R)
      have hZF : (ZE.toList == ZM.toList) = false := by simpa using hZE
      refine one_L (i := 5) (by kernel_rfl) rfl (fun K hK => ?_)
      go_simp
      refine hK.out _ _ (fun _ => hHeld) ?_
      clear hK K
      refine one_L (i := 6) (by kernel_rfl) rfl (fun K hK => ?_)
      go_simp
      refine hK.out _ _ (fun _ => hHeld) ?_
      clear hK K hHeld hne k1 HZE HZM
      refine done_L (by kernel_rfl) ?_ _
      go_upto_region 16 with fail
      refine region_L (fun _ => True) 99 (by kernel_rfl) ?_
      have hd : Below u1.heap.size u1 u1.drew := (Below.refl _ u1).drew
      have R := HP.out u1.drew (HD.out.on hd).f.b
      clear HD hd HP HB HK HM HSr HSm
      generalize u1.drew = vb at *
      have hHeld : True := trivial
      have hne : Nonempty (Sub (fun _ : World => True)) := ⟨⟨vb, trivial⟩⟩
      refine take_L (i := 0) rfl (by kernel_rfl) (by kernel_rfl) (by kernel_rfl) (by kernel_rfl) (fun _ _ _ _ h => h) (by exact hHeld) (fun K hK => ?_)
      go_simp
      refine hK _ ?_
      clear hK K
      refine take_L (i := 1) rfl (by kernel_rfl) (by kernel_rfl) (by kernel_rfl) (by kernel_rfl) (fun _ _ _ _ h => h) (by exact hHeld) (fun K hK => ?_)
      go_simp
      refine hK _ ?_
      clear hK K
      refine take_L (i := 2) rfl (by kernel_rfl) (by kernel_rfl) (by kernel_rfl) (by kernel_rfl) (fun _ _ _ _ h => h) (by exact hHeld) (fun K hK => ?_)
      go_simp
      refine hK _ ?_
      clear hK K
      refine take_L (i := 3) rfl (by kernel_rfl) (by kernel_rfl) (by kernel_rfl) (by kernel_rfl) (fun _ _ _ _ h => h) (by exact hHeld) (fun K hK => ?_)
      go_simp
      refine hK _ ?_
      clear hK K
      refine take_L (i := 6) rfl (by kernel_rfl) (by kernel_rfl) (by kernel_rfl) (by kernel_rfl) (fun _ _ _ _ h => h) (by exact hHeld) (fun K hK => ?_)
      go_simp
      refine hK _ ?_
      clear hK K
      refine one_L (i := 4) (by kernel_rfl) rfl (fun K hK => ?_)
      go_simp
      refine hK.out _ _ (fun _ => hHeld) ?_
      clear hK K
      refine take_L (i := 5) rfl (by kernel_rfl) (by kernel_rfl) (by kernel_rfl) (by kernel_rfl) (fun _ _ _ _ h => h) (by exact hHeld) (fun K hK => ?_)
      go_simp
      refine hK _ ?_
      clear hK K
      refine one_L (i := 7) (by kernel_rfl) rfl (fun K hK => ?_)
      go_simp
      refine hK.out _ _ (fun _ => hHeld) ?_
      clear hK K
      refine take_L (i := 8) rfl (by kernel_rfl) (by kernel_rfl) (by kernel_rfl) (by kernel_rfl) (fun _ _ _ _ h => h) (by exact hHeld) (fun K hK => ?_)
      go_simp
      refine hK _ ?_
      clear hK K
      refine take_L (i := 9) rfl (by kernel_rfl) (by kernel_rfl) (by kernel_rfl) (by kernel_rfl) (fun _ _ _ _ h => h) (by exact hHeld) (fun K hK => ?_)
      go_simp
      refine hK _ ?_
      clear hK K
      refine take_L (i := 10) rfl (by kernel_rfl) (by kernel_rfl) (by kernel_rfl) (by kernel_rfl) (fun _ _ _ _ h => h) (by exact hHeld) (fun K hK => ?_)
      go_simp
      refine hK _ ?_
      clear hK K
      refine take_L (i := 11) rfl (by kernel_rfl) (by kernel_rfl) (by kernel_rfl) (by kernel_rfl) (fun _ _ _ _ h => h) (by exact hHeld) (fun K hK => ?_)
      go_simp
      refine hK _ ?_
      clear hK K
      refine take_L (i := 14) rfl (by kernel_rfl) (by kernel_rfl) (by kernel_rfl) (by kernel_rfl) (fun _ _ _ _ h => h) (by exact hHeld) (fun K hK => ?_)
      go_simp
      refine hK _ ?_
      clear hK K
      refine one_L (i := 12) (by kernel_rfl) rfl (fun K hK => ?_)
      go_simp
      refine hK.out _ _ (fun _ => hHeld) ?_
      clear hK K
      refine take_L (i := 13) rfl (by kernel_rfl) (by kernel_rfl) (by kernel_rfl) (by kernel_rfl) (fun _ _ _ _ h => h) (by exact hHeld) (fun K hK => ?_)
      go_simp
      refine hK _ ?_
      clear hK K
      refine one_L (i := 15) (by kernel_rfl) rfl (fun K hK => ?_)
      go_simp
      refine hK.out _ _ (fun _ => hHeld) ?_
      clear hK K
      refine take_L (i := 16) rfl (by kernel_rfl) (by kernel_rfl) (by kernel_rfl) (by kernel_rfl) (fun _ _ _ _ h => h) (by exact hHeld) (fun K hK => ?_)
      go_simp
      refine hK _ ?_
      clear hK K
      refine take_L (i := 17) rfl (by kernel_rfl) (by kernel_rfl) (by kernel_rfl) (by kernel_rfl) (fun _ _ _ _ h => h) (by exact hHeld) (fun K hK => ?_)
      go_simp
      refine hK _ ?_
      clear hK K
      refine take_L (i := 18) rfl (by kernel_rfl) (by kernel_rfl) (by kernel_rfl) (by kernel_rfl) (fun _ _ _ _ h => h) (by exact hHeld) (fun K hK => ?_)
      go_simp
      refine hK _ ?_
      clear hK K
      refine take_L (i := 19) rfl (by kernel_rfl) (by kernel_rfl) (by kernel_rfl) (by kernel_rfl) (fun _ _ _ _ h => h) (by exact hHeld) (fun K hK => ?_)
      go_simp
      refine hK _ ?_
      clear hK K
      refine one_L (i := 20) (by kernel_rfl) rfl (fun K hK => ?_)
      go_simp
      refine hK.out _ _ (fun _ => hHeld) ?_
      clear hK K
      refine done_L (by kernel_rfl) ?_ _
      clear hne hHeld
      go_wp2
      first | exact R | (go_ret; exact R)
    case neg =>
      have hx' : ¬ (i : Int) < (n : Int) := by omega
      clear hx hxk
      obtain ⟨es, F5, G5, hduo, hke, hle⟩ := HI.out.x
      have HD : Hid (Duo J w W1 D1 T1 es ms p q F5 G5 wr) := hduo
      have HK : Hid (Kinds es ∧ es.length = W1 * D1 * T1) := ⟨hke, hle⟩
      clear hduo hke hle HI
      go_upto_region 15 with fail
      refine region_L (fun W => Src W am n ms) 99 (by kernel_rfl) ?_
      have hd : Below wr.heap.size wr wr.drew := (Below.refl _ wr).drew
      have HD0 : Hid (Duk J w W1 D1 T1 es ms p q F5 G5 [] wr.drew) := (HD.out.on hd).duk
      clear HD hd
      generalize wr.drew = va at *
      have hHeld : Src va am n ms := HSm.out.below HD0.out.d.f.b
      have hne : Nonempty (Sub (fun W => Src W am n ms)) := ⟨⟨_, hHeld⟩⟩
      obtain ⟨ZM, hZ⟩ : ∃ Z, strOfNums ms = Z := ⟨_, rfl⟩
      have HZM : Hid (strOfNums ms = ZM) := hZ
      clear hZ
      have k1 : ∀ s : Sub (fun W => Src W am n ms), (convert 22 9 (.slice am n cm)).run Tryd.prog s.w = .ok (.string ZM) s.w := fun s => by rw [← HZM.out]; exact conv_c s.ok
      refine take_L (i := 0) rfl (by kernel_rfl) (by kernel_rfl) (by kernel_rfl) (by kernel_rfl) (fun _ _ _ _ h => h) (by exact hHeld) (fun K hK => ?_)
      go_simp
      refine hK _ ?_
      clear hK K
      refine take_L (i := 3) rfl (by kernel_rfl) (by kernel_rfl) (by kernel_rfl) (by kernel_rfl) (fun _ _ _ _ h => h) (by exact hHeld) (fun K hK => ?_)
      go_simp
      refine hK _ ?_
      clear hK K
      refine take_L (i := 4) rfl (by kernel_rfl) (by kernel_rfl) (by kernel_rfl) (by kernel_rfl) (fun _ _ _ _ h => h) (by exact hHeld) (fun K hK => ?_)
      go_simp
      refine hK _ ?_
      clear hK K
      have hc := Duk.kindsF HB.out.1 HB.out.2.1 HD0.out HK.out.1 HK.out.2
      refine one_L (i := 1) (by kernel_rfl) rfl (fun K hK => ?_)
      go_simp
      refine hc.mono ?_
      clear hc
      rintro _ u1 ⟨g1, c1, F6, rfl, hd1⟩
      obtain ⟨ZE, hZ⟩ : ∃ Z, strOfNums es = Z := ⟨_, rfl⟩
      have HZE : Hid (strOfNums es = ZE) := hZ
      clear hZ
      have kt : (convert 22 9 (.slice (some ⟨g1, 0, none⟩) n c1)).run Tryd.prog u1 = .ok (.string ZE) u1 := by rw [← HZE.out]; exact pre_text (hd1.k (g1, es) (List.mem_cons_self ..)) (HK.out.2.trans HB.out.2.1.symm) HK.out.1
      have HD : Hid (Duo J w W1 D1 T1 es ms p q F6 G5 u1) := hd1.d
      replace hHeld : Src u1 am n ms := HSm.out.below HD.out.f.b
      refine hK.out _ _ (fun _ => hHeld) ?_
      clear hK K hd1 HD0
      refine one_L (i := 2) (by kernel_rfl) rfl (fun K hK => ?_)
      go_simp
      refine hK.out _ _ (fun _ => hHeld) ?_
      clear hK K kt
      by_cases hZE : ZE.toList = ZM.toList
      case pos =>
        obtain rfl : es = ms := text_inj HK.out.1 HM.out.1 (by rw [HZE.out, HZM.out, hZE])
        obtain rfl : ZE = ZM := by rw [← HZE.out, ← HZM.out]
        refine one_L (i := 5) (by kernel_rfl) rfl (fun K hK => ?_)
        go_simp
        refine hK.out _ _ (fun _ => hHeld) ?_
        clear hK K
        refine one_L (i := 6) (by kernel_rfl) rfl (fun K hK => ?_)
        go_simp
        refine hK.out _ _ (fun _ => hHeld) ?_
        clear hK K hHeld hne k1 HZE HZM
        refine done_L (by kernel_rfl) ?_ _
        go_upto_region 16 with fail
        refine region_L (Kp []) 99 (by kernel_rfl) ?_
        have hd : Below u1.heap.size u1 u1.drew := (Below.refl _ u1).drew
        have HD0 : Hid (Duk J w W1 D1 T1 es es p q F6 G5 [] u1.drew) := (HD.out.on hd).duk
        clear HD hd
        generalize u1.drew = vb at *
        have hHeld := HD0.out.k
        have hne : Nonempty (Sub (Kp [])) := ⟨⟨_, hHeld⟩⟩
        refine take_L (i := 0) rfl (by kernel_rfl) (by kernel_rfl) (by kernel_rfl) (by kernel_rfl) (fun _ _ _ _ h => h) (by exact hHeld) (fun K hK => ?_)
        go_simp
        refine hK _ ?_
        clear hK K
        refine take_L (i := 1) rfl (by kernel_rfl) (by kernel_rfl) (by kernel_rfl) (by kernel_rfl) (fun _ _ _ _ h => h) (by exact hHeld) (fun K hK => ?_)
        go_simp
        refine hK _ ?_
        clear hK K
        refine take_L (i := 2) rfl (by kernel_rfl) (by kernel_rfl) (by kernel_rfl) (by kernel_rfl) (fun _ _ _ _ h => h) (by exact hHeld) (fun K hK => ?_)
        go_simp
        refine hK _ ?_
        clear hK K
        refine take_L (i := 3) rfl (by kernel_rfl) (by kernel_rfl) (by kernel_rfl) (by kernel_rfl) (fun _ _ _ _ h => h) (by exact hHeld) (fun K hK => ?_)
        go_simp
        refine hK _ ?_
        clear hK K
        refine take_L (i := 6) rfl (by kernel_rfl) (by kernel_rfl) (by kernel_rfl) (by kernel_rfl) (fun _ _ _ _ h => h) (by exact hHeld) (fun K hK => ?_)
        go_simp
        refine hK _ ?_
        clear hK K
        have hc := Duk.skyF HB.out.1 HB.out.2.1 HD0.out HK.out.1 HK.out.2
        refine one_L (i := 4) (by kernel_rfl) rfl (fun K hK => ?_)
        go_simp
        refine hc.mono ?_
        clear hc
        rintro _ u1 ⟨g1, c1, H1, r1, rfl, hl1, hd1⟩
        have HLsky : Hid (LightOf (L.skyS W1 D1 T1 (fun j => es.getD j 0) HB.out.1.w0 HB.out.1.d0) n r1) := hl1
        obtain ⟨Zsky, hZ⟩ : ∃ Z, strOfNums r1 = Z := ⟨_, rfl⟩
        have HZsky : Hid (strOfNums r1 = Zsky) := hZ
        clear hZ
        clear hl1
        have kt1 : ∀ s : Sub (Kp ((g1, r1) :: [])), (convert 22 9 (.slice (some ⟨g1, 0, none⟩) n c1)).run Tryd.prog s.w = .ok (.string Zsky) s.w := kp_text HLsky.out.len (lv_kinds HLsky.out) HZsky.out
        have HD1 : Hid (Duk J w W1 D1 T1 es es p q H1 G5 ((g1, r1) :: []) u1) := hd1
        replace hHeld : Kp ((g1, r1) :: []) u1 := HD1.out.k
        refine hK.out _ _ (fun _ => kp_more _ hHeld) ?_
        clear hK K hd1 HD0 hne
        refine wpAnyL_strong (S' := Kp ((g1, r1) :: [])) kp_more _ _ _ _ ?_
        have hne : Nonempty (Sub (Kp ((g1, r1) :: []))) := ⟨⟨_, hHeld⟩⟩
        refine take_L (i := 5) rfl (by kernel_rfl) (by kernel_rfl) (by kernel_rfl) (by kernel_rfl) (fun _ _ _ _ h => h) (by exact hHeld) (fun K hK => ?_)
        go_simp
        refine hK _ ?_
        clear hK K
        have hc := Duk.skyG HB.out.1 HB.out.2.1 HD1.out HK.out.1 HK.out.2
        refine one_L (i := 7) (by kernel_rfl) rfl (fun K hK => ?_)
        go_simp
        refine hc.mono ?_
        clear hc kt1
        rintro _ u2 ⟨g2, c2, H2, r2, rfl, hl2, hd2⟩
        have e2 : r2 = r1 := hl2.same HB.out.2.1.symm HLsky.out
        rw [e2] at hd2
        clear e2
        clear hl2
        have kt2 : ∀ s : Sub (Kp ((g2, r1) :: ((g1, r1) :: []))), (convert 22 9 (.slice (some ⟨g2, 0, none⟩) n c2)).run Tryd.prog s.w = .ok (.string Zsky) s.w := kp_text HLsky.out.len (lv_kinds HLsky.out) HZsky.out
        have HD2 : Hid (Duk J w W1 D1 T1 es es p q H1 H2 ((g2, r1) :: ((g1, r1) :: [])) u2) := hd2
        replace hHeld : Kp ((g2, r1) :: ((g1, r1) :: [])) u2 := HD2.out.k
        refine hK.out _ _ (fun _ => kp_more _ hHeld) ?_
        clear hK K hd2 HD1 hne
        refine wpAnyL_strong (S' := Kp ((g2, r1) :: ((g1, r1) :: []))) kp_more _ _ _ _ ?_
        have hne : Nonempty (Sub (Kp ((g2, r1) :: ((g1, r1) :: [])))) := ⟨⟨_, hHeld⟩⟩
        refine take_L (i := 8) rfl (by kernel_rfl) (by kernel_rfl) (by kernel_rfl) (by kernel_rfl) (fun _ _ _ _ h => h) (by exact hHeld) (fun K hK => ?_)
        go_simp
        refine hK _ ?_
        clear hK K
        refine take_L (i := 9) rfl (by kernel_rfl) (by kernel_rfl) (by kernel_rfl) (by kernel_rfl) (fun _ _ _ _ h => h) (by exact hHeld) (fun K hK => ?_)
        go_simp
        refine hK _ ?_
        clear hK K
        refine take_L (i := 10) rfl (by kernel_rfl) (by kernel_rfl) (by kernel_rfl) (by kernel_rfl) (fun _ _ _ _ h => h) (by exact hHeld) (fun K hK => ?_)
        go_simp
        refine hK _ ?_
        clear hK K
        refine take_L (i := 11) rfl (by kernel_rfl) (by kernel_rfl) (by kernel_rfl) (by kernel_rfl) (fun _ _ _ _ h => h) (by exact hHeld) (fun K hK => ?_)
        go_simp
        refine hK _ ?_
        clear hK K
        refine take_L (i := 14) rfl (by kernel_rfl) (by kernel_rfl) (by kernel_rfl) (by kernel_rfl) (fun _ _ _ _ h => h) (by exact hHeld) (fun K hK => ?_)
        go_simp
        refine hK _ ?_
        clear hK K
        have hc := Duk.lampF HB.out.1 HB.out.2.1 HD2.out HK.out.1 HK.out.2
        refine one_L (i := 12) (by kernel_rfl) rfl (fun K hK => ?_)
        go_simp
        refine hc.mono ?_
        clear hc kt2
        rintro _ u3 ⟨g3, c3, H3, r3, rfl, hl3, hd3⟩
        have HLlamp : Hid (LightOf (L.lampS W1 D1 T1 (fun j => es.getD j 0) HB.out.1.w0 HB.out.1.d0) n r3) := hl3
        obtain ⟨Zlamp, hZ⟩ : ∃ Z, strOfNums r3 = Z := ⟨_, rfl⟩
        have HZlamp : Hid (strOfNums r3 = Zlamp) := hZ
        clear hZ
        clear hl3
        have kt3 : ∀ s : Sub (Kp ((g3, r3) :: ((g2, r1) :: ((g1, r1) :: [])))), (convert 22 9 (.slice (some ⟨g3, 0, none⟩) n c3)).run Tryd.prog s.w = .ok (.string Zlamp) s.w := kp_text HLlamp.out.len (lv_kinds HLlamp.out) HZlamp.out
        have HD3 : Hid (Duk J w W1 D1 T1 es es p q H3 H2 ((g3, r3) :: ((g2, r1) :: ((g1, r1) :: []))) u3) := hd3
        replace hHeld : Kp ((g3, r3) :: ((g2, r1) :: ((g1, r1) :: []))) u3 := HD3.out.k
        refine hK.out _ _ (fun _ => kp_more _ hHeld) ?_
        clear hK K hd3 HD2 hne
        refine wpAnyL_strong (S' := Kp ((g3, r3) :: ((g2, r1) :: ((g1, r1) :: [])))) kp_more _ _ _ _ ?_
        have hne : Nonempty (Sub (Kp ((g3, r3) :: ((g2, r1) :: ((g1, r1) :: []))))) := ⟨⟨_, hHeld⟩⟩
        refine take_L (i := 13) rfl (by kernel_rfl) (by kernel_rfl) (by kernel_rfl) (by kernel_rfl) (fun _ _ _ _ h => h) (by exact hHeld) (fun K hK => ?_)
        go_simp
        refine hK _ ?_
        clear hK K
        have hc := Duk.lampG HB.out.1 HB.out.2.1 HD3.out HK.out.1 HK.out.2
        refine one_L (i := 15) (by kernel_rfl) rfl (fun K hK => ?_)
        go_simp
        refine hc.mono ?_
        clear hc kt3
        rintro _ u4 ⟨g4, c4, H4, r4, rfl, hl4, hd4⟩
        have e4 : r4 = r3 := hl4.same HB.out.2.1.symm HLlamp.out
        rw [e4] at hd4
        clear e4
        clear hl4
        have kt4 : ∀ s : Sub (Kp ((g4, r3) :: ((g3, r3) :: ((g2, r1) :: ((g1, r1) :: []))))), (convert 22 9 (.slice (some ⟨g4, 0, none⟩) n c4)).run Tryd.prog s.w = .ok (.string Zlamp) s.w := kp_text HLlamp.out.len (lv_kinds HLlamp.out) HZlamp.out
        have HD4 : Hid (Duk J w W1 D1 T1 es es p q H3 H4 ((g4, r3) :: ((g3, r3) :: ((g2, r1) :: ((g1, r1) :: [])))) u4) := hd4
        replace hHeld : Kp ((g4, r3) :: ((g3, r3) :: ((g2, r1) :: ((g1, r1) :: [])))) u4 := HD4.out.k
        refine hK.out _ _ (fun _ => kp_more _ hHeld) ?_
        clear hK K hd4 HD3 hne
        refine wpAnyL_strong (S' := Kp ((g4, r3) :: ((g3, r3) :: ((g2, r1) :: ((g1, r1) :: []))))) kp_more _ _ _ _ ?_
        have hne : Nonempty (Sub (Kp ((g4, r3) :: ((g3, r3) :: ((g2, r1) :: ((g1, r1) :: [])))))) := ⟨⟨_, hHeld⟩⟩
        refine take_L (i := 16) rfl (by kernel_rfl) (by kernel_rfl) (by kernel_rfl) (by kernel_rfl) (fun _ _ _ _ h => h) (by exact hHeld) (fun K hK => ?_)
        go_simp
        refine hK _ ?_
        clear hK K
        refine take_L (i := 17) rfl (by kernel_rfl) (by kernel_rfl) (by kernel_rfl) (by kernel_rfl) (fun _ _ _ _ h => h) (by exact hHeld) (fun K hK => ?_)
        go_simp
        refine hK _ ?_
        clear hK K
        refine take_L (i := 18) rfl (by kernel_rfl) (by kernel_rfl) (by kernel_rfl) (by kernel_rfl) (fun _ _ _ _ h => h) (by exact hHeld) (fun K hK => ?_)
        go_simp
        refine hK _ ?_
        clear hK K
        refine take_L (i := 19) rfl (by kernel_rfl) (by kernel_rfl) (by kernel_rfl) (by kernel_rfl) (fun _ _ _ _ h => h) (by exact hHeld) (fun K hK => ?_)
        go_simp
        refine hK _ ?_
        clear hK K
        refine one_L (i := 20) (by kernel_rfl) rfl (fun K hK => ?_)
        go_simp
        refine hK.out _ _ (fun _ => hHeld) ?_
        clear hK K
        refine done_L (by kernel_rfl) ?_ _
        have R := HP.out u4 HD4.out.d.f.b
        clear HP HD4 HB HK HM HSr HSm hne hHeld kt4 HLsky HLlamp HZsky HZlamp
        go_wp2
        first | exact R | (go_ret; exact R)
      have hZF : (ZE.toList == ZM.toList) = false := by simpa using hZE
      refine one_L (i := 5) (by kernel_rfl) rfl (fun K hK => ?_)
      go_simp
      refine hK.out _ _ (fun _ => hHeld) ?_
      clear hK K
      refine one_L (i := 6) (by kernel_rfl) rfl (fun K hK => ?_)
      go_simp
      refine hK.out _ _ (fun _ => hHeld) ?_
      clear hK K hHeld hne k1 HZE HZM
      refine done_L (by kernel_rfl) ?_ _
      go_upto_region 16 with fail
      refine region_L (fun _ => True) 99 (by kernel_rfl) ?_
      have hd : Below u1.heap.size u1 u1.drew := (Below.refl _ u1).drew
      have R := HP.out u1.drew (HD.out.on hd).f.b
      clear HD hd HP HB HK HM HSr HSm
      generalize u1.drew = vb at *
      have hHeld : True := trivial
      have hne : Nonempty (Sub (fun _ : World => True)) := ⟨⟨vb, trivial⟩⟩
      refine take_L (i := 0) rfl (by kernel_rfl) (by kernel_rfl) (by kernel_rfl) (by kernel_rfl) (fun _ _ _ _ h => h) (by exact hHeld) (fun K hK => ?_)
      go_simp
      refine hK _ ?_
      clear hK K
      refine take_L (i := 1) rfl (by kernel_rfl) (by kernel_rfl) (by kernel_rfl) (by kernel_rfl) (fun _ _ _ _ h => h) (by exact hHeld) (fun K hK => ?_)
      go_simp
      refine hK _ ?_
      clear hK K
      refine take_L (i := 2) rfl (by kernel_rfl) (by kernel_rfl) (by kernel_rfl) (by kernel_rfl) (fun _ _ _ _ h => h) (by exact hHeld) (fun K hK => ?_)
      go_simp
      refine hK _ ?_
      clear hK K
      refine take_L (i := 3) rfl (by kernel_rfl) (by kernel_rfl) (by kernel_rfl) (by kernel_rfl) (fun _ _ _ _ h => h) (by exact hHeld) (fun K hK => ?_)
      go_simp
      refine hK _ ?_
      clear hK K
      refine take_L (i := 6) rfl (by kernel_rfl) (by kernel_rfl) (by kernel_rfl) (by kernel_rfl) (fun _ _ _ _ h => h) (by exact hHeld) (fun K hK => ?_)
      go_simp
      refine hK _ ?_
      clear hK K
      refine one_L (i := 4) (by kernel_rfl) rfl (fun K hK => ?_)
      go_simp
      refine hK.out _ _ (fun _ => hHeld) ?_
      clear hK K
      refine take_L (i := 5) rfl (by kernel_rfl) (by kernel_rfl) (by kernel_rfl) (by kernel_rfl) (fun _ _ _ _ h => h) (by exact hHeld) (fun K hK => ?_)
      go_simp
      refine hK _ ?_
      clear hK K
      refine one_L (i := 7) (by kernel_rfl) rfl (fun K hK => ?_)
      go_simp
      refine hK.out _ _ (fun _ => hHeld) ?_
      clear hK K
      refine take_L (i := 8) rfl (by kernel_rfl) (by kernel_rfl) (by kernel_rfl) (by kernel_rfl) (fun _ _ _ _ h => h) (by exact hHeld) (fun K hK => ?_)
      go_simp
      refine hK _ ?_
      clear hK K
      refine take_L (i := 9) rfl (by kernel_rfl) (by kernel_rfl) (by kernel_rfl) (by kernel_rfl) (fun _ _ _ _ h => h) (by exact hHeld) (fun K hK => ?_)
      go_simp
      refine hK _ ?_
      clear hK K
      refine take_L (i := 10) rfl (by kernel_rfl) (by kernel_rfl) (by kernel_rfl) (by kernel_rfl) (fun _ _ _ _ h => h) (by exact hHeld) (fun K hK => ?_)
      go_simp
      refine hK _ ?_
      clear hK K
      refine take_L (i := 11) rfl (by kernel_rfl) (by kernel_rfl) (by kernel_rfl) (by kernel_rfl) (fun _ _ _ _ h => h) (by exact hHeld) (fun K hK => ?_)
      go_simp
      refine hK _ ?_
      clear hK K
      refine take_L (i := 14) rfl (by kernel_rfl) (by kernel_rfl) (by kernel_rfl) (by kernel_rfl) (fun _ _ _ _ h => h) (by exact hHeld) (fun K hK => ?_)
      go_simp
      refine hK _ ?_
      clear hK K
      refine one_L (i := 12) (by kernel_rfl) rfl (fun K hK => ?_)
      go_simp
      refine hK.out _ _ (fun _ => hHeld) ?_
      clear hK K
      refine take_L (i := 13) rfl (by kernel_rfl) (by kernel_rfl) (by kernel_rfl) (by kernel_rfl) (fun _ _ _ _ h => h) (by exact hHeld) (fun K hK => ?_)
      go_simp
      refine hK _ ?_
      clear hK K
      refine one_L (i := 15) (by kernel_rfl) rfl (fun K hK => ?_)
      go_simp
      refine hK.out _ _ (fun _ => hHeld) ?_
      clear hK K
      refine take_L (i := 16) rfl (by kernel_rfl) (by kernel_rfl) (by kernel_rfl) (by kernel_rfl) (fun _ _ _ _ h => h) (by exact hHeld) (fun K hK => ?_)
      go_simp
      refine hK _ ?_
      clear hK K
      refine take_L (i := 17) rfl (by kernel_rfl) (by kernel_rfl) (by kernel_rfl) (by kernel_rfl) (fun _ _ _ _ h => h) (by exact hHeld) (fun K hK => ?_)
      go_simp
      refine hK _ ?_
      clear hK K
      refine take_L (i := 18) rfl (by kernel_rfl) (by kernel_rfl) (by kernel_rfl) (by kernel_rfl) (fun _ _ _ _ h => h) (by exact hHeld) (fun K hK => ?_)
      go_simp
      refine hK _ ?_
      clear hK K
      refine take_L (i := 19) rfl (by kernel_rfl) (by kernel_rfl) (by kernel_rfl) (by kernel_rfl) (fun _ _ _ _ h => h) (by exact hHeld) (fun K hK => ?_)
      go_simp
      refine hK _ ?_
      clear hK K
      refine one_L (i := 20) (by kernel_rfl) rfl (fun K hK => ?_)
      go_simp
      refine hK.out _ _ (fun _ => hHeld) ?_
      clear hK K
      refine done_L (by kernel_rfl) ?_ _
      clear hne hHeld
      go_wp2
      first | exact R | (go_ret; exact R)
end Go.Proofs.YtmfjmcaaoljjlaaDoor
