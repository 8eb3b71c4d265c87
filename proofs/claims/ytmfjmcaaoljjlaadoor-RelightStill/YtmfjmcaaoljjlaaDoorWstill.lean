/-
  RelightStill: a cell that is set as it is changes no light.
-/
import Derived.Test.YtmfjmcaaoljjlaaDoorWt
set_option maxRecDepth 20000
namespace Go.Proofs.YtmfjmcaaoljjlaaDoor
open C Go.RowKit L
attribute [local go_sem] Oper.semAt_some

set_option maxRecDepth 1000000 in
set_option maxHeartbeats 16000000 in
theorem relightStill_walk (J : JSpec) (W D T : Int) (a : Option Addr) (n c : Nat) (bs : List Int) (i : Int) (w : World) (hG : J.G w) (hn : n ≤ 9223372036854775807) (hS : Src w a n bs) (_hi : (Lit.int .i64 i).wf = true) :
    Calls Tryd.prog 7 #[.int .i64 W, .int .i64 D, .int .i64 T, .slice a n c, .int .i64 i] w fun e w' => e = .returned (.bool true) ∧ Below w.heap.size w w' := by
  obtain ⟨Post, hPost⟩ : ∃ Post : Ending → World → Prop, Post = fun e w' => e = .returned (.bool true) ∧ Below w.heap.size w w' := ⟨_, rfl⟩
  rw [← hPost]
  have HP : Hid (∀ w', Below w.heap.size w w' → Post (.returned (.bool true)) w') := fun w' h => by rw [hPost]; exact ⟨rfl, h⟩
  clear hPost _hi
  have HSr : Hid (Src w a n bs) := hS
  have haw := awake_c J w hG
  clear hS hG
  go_enter Tryd.func7, Tryd.ntmps7
  go_wp2_with fail
  refine haw.mono ?_
  rintro _ w1 ⟨rfl, hG1, hb1⟩
  have H1 : Hid (J.G w1 ∧ Below w.heap.size w w1) := ⟨hG1, hb1⟩
  clear haw hG1 hb1
  by_cases hn2 : n ≤ 3000
  case neg =>
    have R := HP.out w1 H1.out.2
    clear HP HSr H1
    go_wp2
    first | exact R | (go_ret; exact R)
  have hnew := J.new W D T a n c bs w1 H1.out.1 (by omega) (HSr.out.below H1.out.2)
  go_wp2_with fail
  refine hnew.mono ?_
  clear hnew
  intro e2 w2 hnw
  by_cases hok : OkDims W D T n ∧ Kinds bs
  case neg =>
    obtain ⟨cc, hcc, rfl, hb2⟩ := newas_no hnw hok
    have R := HP.out w2 (H1.out.2.trans (hb2.mono H1.out.2.size))
    have hc0 : ¬ cc = 0 := by rcases hcc with ⟨q, _⟩ | ⟨q, _⟩ <;> omega
    have hc1 : (cc != 0) = true := by simpa using hc0
    clear hnw hcc hb2 HP HSr H1 hok
    go_wp2
    first | exact R | (go_ret; exact R)
  obtain ⟨p, rfl, ⟨F, W1, D1, T1, rfl, rfl, rfl, hA, hF⟩, hb2⟩ := newas_ok hnw hok.1 hok.2
  have hb02 := H1.out.2.trans (hb2.mono H1.out.2.size)
  have HJ2 : Hid (Fj J w W1 D1 T1 bs p F w2) := ⟨J.gon H1.out.1 hb2, hA, hb02, fun j hj => Nat.le_trans H1.out.2.size (hF j hj)⟩
  have HB : Hid (Bx W1 D1 T1 ∧ n = W1 * D1 * T1 ∧ Kinds bs ∧ bs.length = W1 * D1 * T1) := ⟨(dims_bx hok.1).1, (dims_bx hok.1).2, hok.2, by rw [HSr.out.len]; exact (dims_bx hok.1).2⟩
  clear hnw hA hF hb2 hb02 hok H1
  by_cases hi0 : 0 ≤ i
  case neg =>
    have R := HP.out w2 HJ2.out.b
    clear HP HSr HJ2 HB
    go_wp2
    first | exact R | (go_ret; exact R)
  by_cases hin : i < (n : Int)
  case neg =>
    have R := HP.out w2 HJ2.out.b
    clear HP HSr HJ2 HB
    go_wp2
    first | exact R | (go_ret; exact R)
  obtain ⟨I, rfl⟩ := Int.eq_ofNat_of_zero_le hi0
  have hI : I < n := by omega
  have hc := HJ2.out.sky HB.out.1 HB.out.2.2.1 HB.out.2.2.2 HB.out.2.1
  go_wp2_with fail
  refine hc.mono ?_
  clear hc
  rintro _ v3 ⟨g3, c3, F3, la, rfl, hla, hT⟩
  obtain ⟨X, hX⟩ : ∃ X, strOfNums la = X := ⟨_, rfl⟩
  have vt3 : (convert 22 9 (.slice (some ⟨g3, 0, none⟩) n c3)).run Tryd.prog v3 = .ok (.string X) v3 := by rw [← hX]; exact pre_text hT.pre hla.len (lv_kinds hla)
  have HJ3 : Hid (Fj J w W1 D1 T1 bs p F3 v3) := hT.fj
  have Hla : Hid (LightOf (L.skyS W1 D1 T1 (fun j => bs.getD j 0) HB.out.1.w0 HB.out.1.d0) n la ∧ strOfNums la = X) := ⟨hla, hX⟩
  clear hT hla hX HJ2
  have hc := HJ3.out.lamp HB.out.1 HB.out.2.2.1 HB.out.2.2.2 HB.out.2.1
  go_wp2_with fail
  refine hc.mono ?_
  clear hc vt3
  rintro _ v4 ⟨g4, c4, F4, lb, rfl, hlb, hT⟩
  obtain ⟨Y, hY⟩ : ∃ Y, strOfNums lb = Y := ⟨_, rfl⟩
  have vt4 : (convert 22 9 (.slice (some ⟨g4, 0, none⟩) n c4)).run Tryd.prog v4 = .ok (.string Y) v4 := by rw [← hY]; exact pre_text hT.pre hlb.len (lv_kinds hlb)
  have HJ4 : Hid (Fj J w W1 D1 T1 bs p F4 v4) := hT.fj
  have HLt : Hid (LightOf (L.skyS W1 D1 T1 (fun j => bs.getD j 0) HB.out.1.w0 HB.out.1.d0) n la ∧ LightOf (L.lampS W1 D1 T1 (fun j => bs.getD j 0) HB.out.1.w0 HB.out.1.d0) n lb) := ⟨Hla.out.1, hlb⟩
  obtain ⟨Z, hZ⟩ : ∃ Z, strOfNums bs = Z := ⟨_, rfl⟩
  have HXs : Hid (strOfNums la = X ∧ strOfNums lb = Y ∧ strOfNums bs = Z) := ⟨Hla.out.2, hY, hZ⟩
  clear hT hlb hY hZ HJ3 Hla
  -- the cell as it is
  obtain ⟨b, off, rfl, hlt, hck⟩ := (HSr.out.below HJ4.out.b).cells I hI
  have hkb := Kinds.at HB.out.2.2.1 I
  obtain ⟨A, hA⟩ : ∃ A, bs.getD I 0 = A := ⟨_, rfl⟩
  rw [hA] at hck hkb
  obtain ⟨a0, a16⟩ := hkb
  have wA : IntKind.i64.wrap A = A := by rw [IntKind.wrap_i64]; omega
  have hset := HJ4.out.op HB.out.1 HB.out.2.2.1 HB.out.2.2.2 (I : Int) A
  have hself : opS (W1 * D1 * T1) bs (I : Int) A = bs := by
    unfold opS
    rw [if_pos ⟨by omega, by rw [← HB.out.2.1]; omega, a0, a16⟩, Int.toNat_natCast, ← hA]
    exact set_selfJ (by rw [HB.out.2.2.2, ← HB.out.2.1]; exact hI)
  rw [hself] at hset
  have Hrc : Hid (0 ≤ (I : Int) ∧ (I : Int) < ((W1 * D1 * T1 : Nat) : Int) ∧ 0 ≤ A ∧ A ≤ 16) := ⟨by omega, by rw [← HB.out.2.1]; omega, a0, a16⟩
  clear hself hA hlt
  go_wp2_with fail
  refine hset.mono ?_
  clear hset vt4
  rintro _ v5 ⟨rc, F5, rfl, hrc, _, _, _, hf5⟩
  obtain rfl : rc = 0 := hrc Hrc.out
  have HJ5 : Hid (Fj J w W1 D1 T1 bs p F5 v5) := hf5
  clear hrc hf5 HJ4 Hrc hck
  obtain ⟨a, ha⟩ : ∃ a : Option Addr, a = some ⟨b, off, none⟩ := ⟨_, rfl⟩
  rw [← ha] at HSr ⊢
  clear ha
  go_upto_region 10 with fail
  refine region_L (fun W => Src W a n bs) 24 (by kernel_rfl) ?_
  have hd : Below v5.heap.size v5 v5.drew := (Below.refl _ v5).drew
  have HJ5' : Hid (Fj J w W1 D1 T1 bs p F5 v5.drew) := HJ5.out.on hd
  clear HJ5 hd
  have HJ5 := HJ5'
  clear HJ5'
  generalize v5.drew = va at *
  have hHeld : Src va a n bs := HSr.out.below HJ5.out.b
  have hne : Nonempty (Sub (fun W => Src W a n bs)) := ⟨⟨_, hHeld⟩⟩
  have k1 : ∀ s : Sub (fun W => Src W a n bs), (convert 22 9 (.slice a n c)).run Tryd.prog s.w = .ok (.string Z) s.w := fun s => by rw [← HXs.out.2.2]; exact conv_c s.ok
  refine take_L (i := 0) rfl (by kernel_rfl) (by kernel_rfl) (by kernel_rfl) (by kernel_rfl) (fun _ _ _ _ h => h) (by exact hHeld) (fun K hK => ?_)
  go_simp
  refine hK _ ?_
  clear hK K
  refine take_L (i := 1) rfl (by kernel_rfl) (by kernel_rfl) (by kernel_rfl) (by kernel_rfl) (fun _ _ _ _ h => h) (by exact hHeld) (fun K hK => ?_)
  go_simp
  refine hK _ ?_
  clear hK K
  refine take_L (i := 2) rfl (by kernel_rfl) (by kernel_rfl) (by kernel_rfl) (by kernel_rfl) (fun _ _ _ _ h => h) (by exact hHeld) (fun K hK => ?_)
  go_simp
  refine hK _ ?_
  clear hK K
  refine take_L (i := 3) rfl (by kernel_rfl) (by kernel_rfl) (by kernel_rfl) (by kernel_rfl) (fun _ _ _ _ h => h) (by exact hHeld) (fun K hK => ?_)
  go_simp
  refine hK _ ?_
  clear hK K
  refine take_L (i := 6) rfl (by kernel_rfl) (by kernel_rfl) (by kernel_rfl) (by kernel_rfl) (fun _ _ _ _ h => h) (by exact hHeld) (fun K hK => ?_)
  go_simp
  refine hK _ ?_
  clear hK K
  refine one_L (i := 4) (by kernel_rfl) rfl (fun K hK => ?_)
  go_simp
  have hc := HJ5.out.sky HB.out.1 HB.out.2.2.1 HB.out.2.2.2 HB.out.2.1
  refine hc.mono ?_
  clear hc
  rintro _ v6 ⟨g6, c6, F6, l6, rfl, hl, hT⟩
  have e1 : l6 = la := hl.same HB.out.2.1.symm HLt.out.1
  have hp := hT.pre
  rw [e1] at hp
  clear e1 hl
  have vt6 : (convert 22 9 (.slice (some ⟨g6, 0, none⟩) n c6)).run Tryd.prog v6 = .ok (.string X) v6 := by rw [← HXs.out.1]; exact pre_text hp HLt.out.1.len (lv_kinds HLt.out.1)
  have HJ6 : Hid (Fj J w W1 D1 T1 bs p F6 v6) := hT.fj
  clear hT hp HJ5
  replace hHeld : Src v6 a n bs := HSr.out.below HJ6.out.b
  refine hK.out _ _ (fun _ => hHeld) ?_
  clear hK K
  refine one_L (i := 5) (by kernel_rfl) rfl (fun K hK => ?_)
  go_simp
  refine hK.out _ _ (fun _ => hHeld) ?_
  clear hK K
  refine take_L (i := 7) rfl (by kernel_rfl) (by kernel_rfl) (by kernel_rfl) (by kernel_rfl) (fun _ _ _ _ h => h) (by exact hHeld) (fun K hK => ?_)
  go_simp
  refine hK _ ?_
  clear hK K
  refine take_L (i := 8) rfl (by kernel_rfl) (by kernel_rfl) (by kernel_rfl) (by kernel_rfl) (fun _ _ _ _ h => h) (by exact hHeld) (fun K hK => ?_)
  go_simp
  refine hK _ ?_
  clear hK K
  refine take_L (i := 9) rfl (by kernel_rfl) (by kernel_rfl) (by kernel_rfl) (by kernel_rfl) (fun _ _ _ _ h => h) (by exact hHeld) (fun K hK => ?_)
  go_simp
  refine hK _ ?_
  clear hK K
  refine take_L (i := 10) rfl (by kernel_rfl) (by kernel_rfl) (by kernel_rfl) (by kernel_rfl) (fun _ _ _ _ h => h) (by exact hHeld) (fun K hK => ?_)
  go_simp
  refine hK _ ?_
  clear hK K
  refine take_L (i := 13) rfl (by kernel_rfl) (by kernel_rfl) (by kernel_rfl) (by kernel_rfl) (fun _ _ _ _ h => h) (by exact hHeld) (fun K hK => ?_)
  go_simp
  refine hK _ ?_
  clear hK K
  refine one_L (i := 11) (by kernel_rfl) rfl (fun K hK => ?_)
  go_simp
  have hc := HJ6.out.lamp HB.out.1 HB.out.2.2.1 HB.out.2.2.2 HB.out.2.1
  refine hc.mono ?_
  clear hc
  rintro _ v7 ⟨g7, c7, F7, l7, rfl, hl, hT⟩
  have e1 : l7 = lb := hl.same HB.out.2.1.symm HLt.out.2
  have hp := hT.pre
  rw [e1] at hp
  clear e1 hl
  have vt7 : (convert 22 9 (.slice (some ⟨g7, 0, none⟩) n c7)).run Tryd.prog v7 = .ok (.string Y) v7 := by rw [← HXs.out.2.1]; exact pre_text hp HLt.out.2.len (lv_kinds HLt.out.2)
  have HJ7 : Hid (Fj J w W1 D1 T1 bs p F7 v7) := hT.fj
  clear hT hp HJ6
  replace hHeld : Src v7 a n bs := HSr.out.below HJ7.out.b
  refine hK.out _ _ (fun _ => hHeld) ?_
  clear hK K
  refine one_L (i := 12) (by kernel_rfl) rfl (fun K hK => ?_)
  go_simp
  refine hK.out _ _ (fun _ => hHeld) ?_
  clear hK K
  refine take_L (i := 14) rfl (by kernel_rfl) (by kernel_rfl) (by kernel_rfl) (by kernel_rfl) (fun _ _ _ _ h => h) (by exact hHeld) (fun K hK => ?_)
  go_simp
  refine hK _ ?_
  clear hK K
  refine take_L (i := 15) rfl (by kernel_rfl) (by kernel_rfl) (by kernel_rfl) (by kernel_rfl) (fun _ _ _ _ h => h) (by exact hHeld) (fun K hK => ?_)
  go_simp
  refine hK _ ?_
  clear hK K
  refine take_L (i := 16) rfl (by kernel_rfl) (by kernel_rfl) (by kernel_rfl) (by kernel_rfl) (fun _ _ _ _ h => h) (by exact hHeld) (fun K hK => ?_)
  go_simp
  refine hK _ ?_
  clear hK K
  refine take_L (i := 17) rfl (by kernel_rfl) (by kernel_rfl) (by kernel_rfl) (by kernel_rfl) (fun _ _ _ _ h => h) (by exact hHeld) (fun K hK => ?_)
  go_simp
  refine hK _ ?_
  clear hK K
  refine take_L (i := 20) rfl (by kernel_rfl) (by kernel_rfl) (by kernel_rfl) (by kernel_rfl) (fun _ _ _ _ h => h) (by exact hHeld) (fun K hK => ?_)
  go_simp
  refine hK _ ?_
  clear hK K
  refine take_L (i := 21) rfl (by kernel_rfl) (by kernel_rfl) (by kernel_rfl) (by kernel_rfl) (fun _ _ _ _ h => h) (by exact hHeld) (fun K hK => ?_)
  go_simp
  refine hK _ ?_
  clear hK K
  refine one_L (i := 18) (by kernel_rfl) rfl (fun K hK => ?_)
  go_simp
  have hc := HJ7.out.kinds HB.out.1 HB.out.2.2.1 HB.out.2.2.2 HB.out.2.1
  refine hc.mono ?_
  clear hc
  rintro _ v8 ⟨g8, c8, F8, rfl, hT⟩
  have hp := hT.pre
  have vt8 : (convert 22 9 (.slice (some ⟨g8, 0, none⟩) n c8)).run Tryd.prog v8 = .ok (.string Z) v8 := by rw [← HXs.out.2.2]; exact pre_text hp (HB.out.2.2.2.trans HB.out.2.1.symm) HB.out.2.2.1
  have HJ8 : Hid (Fj J w W1 D1 T1 bs p F8 v8) := hT.fj
  clear hT hp HJ7
  replace hHeld : Src v8 a n bs := HSr.out.below HJ8.out.b
  refine hK.out _ _ (fun _ => hHeld) ?_
  clear hK K
  refine one_L (i := 19) (by kernel_rfl) rfl (fun K hK => ?_)
  go_simp
  refine hK.out _ _ (fun _ => hHeld) ?_
  clear hK K
  refine take_L (i := 22) rfl (by kernel_rfl) (by kernel_rfl) (by kernel_rfl) (by kernel_rfl) (fun _ _ _ _ h => h) (by exact hHeld) (fun K hK => ?_)
  go_simp
  refine hK _ ?_
  clear hK K
  refine take_L (i := 23) rfl (by kernel_rfl) (by kernel_rfl) (by kernel_rfl) (by kernel_rfl) (fun _ _ _ _ h => h) (by exact hHeld) (fun K hK => ?_)
  go_simp
  refine hK _ ?_
  clear hK K
  refine one_L (i := 24) (by kernel_rfl) rfl (fun K hK => ?_)
  go_simp
  refine hK.out _ _ (fun h => absurd rfl h) ?_
  clear hK K
  refine done_L (by kernel_rfl) ?_ _
  have R := HP.out v8 HJ8.out.b
  clear HP HJ8 HB HLt HXs HSr k1 hne hHeld
  go_wp2
  first | exact R | (go_ret; exact R)
end Go.Proofs.YtmfjmcaaoljjlaaDoor
