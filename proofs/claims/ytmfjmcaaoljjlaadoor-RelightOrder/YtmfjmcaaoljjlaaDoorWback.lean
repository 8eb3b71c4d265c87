/-
  RelightBack: what was set and set back again is as bright as before.
-/
import Derived.Test.YtmfjmcaaoljjlaaDoorWt
set_option maxRecDepth 20000
namespace Go.Proofs.YtmfjmcaaoljjlaaDoor
open C Go.RowKit L
attribute [local go_sem] Oper.semAt_some

theorem opS_ne {n : Nat} {cs : List Int} {i k : Int} {j : Nat} (h : i ≠ (j : Int)) : (opS n cs i k).getD j 0 = cs.getD j 0 := by
  unfold opS
  split
  · rename_i q
    exact C.getD_set_ne cs _ (fun e => h (by omega))
  · rfl
theorem opS_at {n : Nat} {cs : List Int} {I : Nat} {k : Int} (hI : I < n) (hl : cs.length = n) (h0 : 0 ≤ k) (h1 : k ≤ 16) : (opS n cs (I : Int) k).getD I 0 = k := by
  unfold opS
  rw [if_pos ⟨by omega, by omega, h0, h1⟩, Int.toNat_natCast]
  exact C.getD_set_self cs I _ (by omega)
/-- What the region of a Set that goes back reads. -/
structure ReadsQ (lb o b ko : Nat) (x y A : Int) (w : World) : Prop where
  r : ReadsP lb o x y w
  k : w.cell? ⟨b, ko, none⟩ = some (.int .u8 A)
set_option maxRecDepth 1000000 in
set_option maxHeartbeats 16000000 in
theorem relightBack_walk (J : JSpec) (W D T : Int) (a la0 : Option Addr) (n c ln lc : Nat) (bs : List Int) (P : Nat → Nat → Int) (w : World) (hG : J.G w) (hn : n ≤ 9223372036854775807) (hln : ln ≤ 9223372036854775807) (hS : Src w a n bs) (hO : Ops w la0 ln P) :
    Calls Tryd.prog 5 #[.int .i64 W, .int .i64 D, .int .i64 T, .slice a n c, .slice la0 ln lc] w fun e w' => e = .returned (.bool true) ∧ Below w.heap.size w w' := by
  obtain ⟨Post, hPost⟩ : ∃ Post : Ending → World → Prop, Post = fun e w' => e = .returned (.bool true) ∧ Below w.heap.size w w' := ⟨_, rfl⟩
  rw [← hPost]
  have HP : Hid (∀ w', Below w.heap.size w w' → Post (.returned (.bool true)) w') := fun w' h => by rw [hPost]; exact ⟨rfl, h⟩
  clear hPost
  have HSr : Hid (Src w a n bs ∧ Ops w la0 ln P) := ⟨hS, hO⟩
  have haw := awake_c J w hG
  clear hS hG hO
  go_enter Tryd.func5, Tryd.ntmps5
  go_wp2_with fail
  refine haw.mono ?_
  rintro _ w1 ⟨rfl, hG1, hb1⟩
  have H1 : Hid (J.G w1 ∧ Below w.heap.size w w1) := ⟨hG1, hb1⟩
  clear haw hG1 hb1
  by_cases hn2 : n ≤ 2000
  case neg =>
    have R := HP.out w1 H1.out.2
    clear HP HSr H1
    go_wp2
    first | exact R | (go_ret; exact R)
  by_cases hl6 : ln ≤ 60
  case neg =>
    have R := HP.out w1 H1.out.2
    clear HP HSr H1
    go_wp2
    first | exact R | (go_ret; exact R)
  have hnew := J.new W D T a n c bs w1 H1.out.1 (by omega) (HSr.out.1.below H1.out.2)
  go_wp2_with fail
  refine hnew.mono ?_
  clear hnew
  intro e2 w2 hnw
  by_cases hok : OkDims W D T n ∧ Kinds bs
  case neg =>
    obtain ⟨cc, hcc, rfl, hb2⟩ := newas_no hnw hok
    have R := HP.out w2 (H1.out.2.trans (hb2.mono H1.out.2.size))
    have hc0 : ¬ cc = 0 := by rcases hcc with ⟨q, _⟩ | ⟨q, _⟩ <;> omega
    have hc1 : (cc != 0) = true := by simpa using hc0
    clear hnw hcc hb2 HP HSr H1 hok
    go_wp2
    first | exact R | (go_ret; exact R)
  obtain ⟨p, rfl, ⟨F, W1, D1, T1, rfl, rfl, rfl, hA, hF⟩, hb2⟩ := newas_ok hnw hok.1 hok.2
  have hb02 := H1.out.2.trans (hb2.mono H1.out.2.size)
  have HJ2 : Hid (Fj J w W1 D1 T1 bs p F w2) := ⟨J.gon H1.out.1 hb2, hA, hb02, fun j hj => Nat.le_trans H1.out.2.size (hF j hj)⟩
  have HB : Hid (Bx W1 D1 T1 ∧ n = W1 * D1 * T1 ∧ Kinds bs ∧ bs.length = W1 * D1 * T1) := ⟨(dims_bx hok.1).1, (dims_bx hok.1).2, hok.2, by rw [HSr.out.1.len]; exact (dims_bx hok.1).2⟩
  clear hnw hA hF hb2 hb02 hok H1
  have hc := HJ2.out.sky HB.out.1 HB.out.2.2.1 HB.out.2.2.2 HB.out.2.1
  go_wp2_with fail
  refine hc.mono ?_
  clear hc
  rintro _ v3 ⟨g3, c3, F3, la, rfl, hla, hT⟩
  obtain ⟨X, hX⟩ : ∃ X, strOfNums la = X := ⟨_, rfl⟩
  have vt3 : (convert 22 9 (.slice (some ⟨g3, 0, none⟩) n c3)).run Tryd.prog v3 = .ok (.string X) v3 := by rw [← hX]; exact pre_text hT.pre hla.len (lv_kinds hla)
  have HJ3 : Hid (Fj J w W1 D1 T1 bs p F3 v3) := hT.fj
  have Hla : Hid (LightOf (L.skyS W1 D1 T1 (fun j => bs.getD j 0) HB.out.1.w0 HB.out.1.d0) n la ∧ strOfNums la = X) := ⟨hla, hX⟩
  clear hT hla hX HJ2
  have hc := HJ3.out.lamp HB.out.1 HB.out.2.2.1 HB.out.2.2.2 HB.out.2.1
  go_wp2_with fail
  refine hc.mono ?_
  clear hc vt3
  rintro _ v4 ⟨g4, c4, F4, lb, rfl, hlb, hT⟩
  obtain ⟨Y, hY⟩ : ∃ Y, strOfNums lb = Y := ⟨_, rfl⟩
  have vt4 : (convert 22 9 (.slice (some ⟨g4, 0, none⟩) n c4)).run Tryd.prog v4 = .ok (.string Y) v4 := by rw [← hY]; exact pre_text hT.pre hlb.len (lv_kinds hlb)
  have HJ4 : Hid (Fj J w W1 D1 T1 bs p F4 v4) := hT.fj
  have HLt : Hid (LightOf (L.skyS W1 D1 T1 (fun j => bs.getD j 0) HB.out.1.w0 HB.out.1.d0) n la ∧ LightOf (L.lampS W1 D1 T1 (fun j => bs.getD j 0) HB.out.1.w0 HB.out.1.d0) n lb) := ⟨Hla.out.1, hlb⟩
  obtain ⟨Z, hZ⟩ : ∃ Z, strOfNums bs = Z := ⟨_, rfl⟩
  have HXs : Hid (strOfNums la = X ∧ strOfNums lb = Y ∧ strOfNums bs = Z) := ⟨Hla.out.2, hY, hZ⟩
  clear hT hlb hY hZ HJ3 Hla
  -- forth
  go_wp2_with fail
  clear vt4
  go_loopw [16] (fun vx wr => ∃ i : Nat, i ≤ ln ∧ vx = .int .i64 (i : Int) ∧ Hid (∃ cs F', Fj J w W1 D1 T1 cs p F' wr ∧ Kinds cs ∧ cs.length = W1 * D1 * T1 ∧ ∀ j : Nat, (∀ t, t < i → P t 0 ≠ (j : Int)) → cs.getD j 0 = bs.getD j 0)) (fun vx _ => ln - (intOf vx).toNat)
  case atStart => exact ⟨0, by omega, rfl, bs, F4, HJ4.out, HB.out.2.2.1, HB.out.2.2.2, fun _ _ => rfl⟩
  case round =>
    clear HJ4
    obtain ⟨i, hi, rfl, HK1⟩ := hrel
    by_cases hx : i < ln
    case pos =>
      have hx' : (i : Int) < (ln : Int) := by omega
      obtain ⟨cs, F', hf, hk, hl, hcs⟩ := HK1.out
      obtain ⟨lb1, lo, rfl, hlb, hrd⟩ := HSr.out.2.reads hx
      obtain ⟨x, hxx⟩ : ∃ x, P i 0 = x := ⟨_, rfl⟩
      obtain ⟨y, hyy⟩ : ∃ y, P i 1 = y := ⟨_, rfl⟩
      rw [hxx, hyy] at hrd
      have Hrd : Hid (∀ w', Below w.heap.size w w' → ReadsP lb1 (lo + i * 2) x y w') := hrd
      have H2 : Hid (Fj J w W1 D1 T1 cs p F' wr ∧ Kinds cs ∧ cs.length = W1 * D1 * T1 ∧ (∀ j : Nat, (∀ t, t < i → P t 0 ≠ (j : Int)) → cs.getD j 0 = bs.getD j 0) ∧ P i 0 = x) := ⟨hf, hk, hl, hcs, hxx⟩
      have x0 := (hrd wr hf.b).x
      clear hf hk hl hcs hrd HK1 hxx hyy
      by_cases hc0 : 0 ≤ x ∧ x < (n : Int)
      case neg =>
        have HE : Hid (∃ cs F', Fj J w W1 D1 T1 cs p F' wr ∧ Kinds cs ∧ cs.length = W1 * D1 * T1 ∧ ∀ j : Nat, (∀ t, t < i + 1 → P t 0 ≠ (j : Int)) → cs.getD j 0 = bs.getD j 0) := by
          obtain ⟨h1, h2, h3, h4, h5⟩ := H2.out
          exact ⟨cs, F', h1, h2, h3, fun j hj => h4 j (fun t ht => hj t (by omega))⟩
        clear H2 Hrd HP HSr HB HLt HXs
        by_cases hx0 : 0 ≤ x
        · have hx1 : ¬ x < (n : Int) := fun q => hc0 ⟨hx0, q⟩
          go_wp2
          exact ⟨⟨i + 1, by omega, rfl, HE⟩, by simp [intOf]; omega⟩
        · go_wp2
          exact ⟨⟨i + 1, by omega, rfl, HE⟩, by simp [intOf]; omega⟩
      obtain ⟨hx0, hx1⟩ := hc0
      go_upto_region 13 with fail
      clear x0
      refine region_L (ReadsP lb1 (lo + i * 2) x y) 11 (by kernel_rfl) ?_
      have hd : Below wr.heap.size wr wr.drew := (Below.refl _ wr).drew
      have H3 : Hid (Fj J w W1 D1 T1 cs p F' wr.drew ∧ Kinds cs ∧ cs.length = W1 * D1 * T1 ∧ (∀ j : Nat, (∀ t, t < i → P t 0 ≠ (j : Int)) → cs.getD j 0 = bs.getD j 0) ∧ P i 0 = x) := ⟨H2.out.1.on hd, H2.out.2⟩
      clear H2 hd
      generalize wr.drew = va at *
      have hHeld := Hrd.out va H3.out.1.b
      have hne : Nonempty (Sub (ReadsP lb1 (lo + i * 2) x y)) := ⟨⟨_, hHeld⟩⟩
      have k1 : ∀ s : Sub (ReadsP lb1 (lo + i * 2) x y), s.w.cell? ⟨lb1, lo + i * 2, none⟩ = some (.int .i64 x) := fun s => s.ok.x
      have k2 : ∀ s : Sub (ReadsP lb1 (lo + i * 2) x y), s.w.cell? ⟨lb1, lo + i * 2 + 1, none⟩ = some (.int .i64 y) := fun s => s.ok.y
      refine take_L (i := 0) rfl (by kernel_rfl) (by kernel_rfl) (by kernel_rfl) (by kernel_rfl) (fun _ _ _ _ h => h) (by exact hHeld) (fun K hK => ?_)
      go_simp
      refine hK _ ?_
      clear hK K
      refine take_LC (i := 1) [5, 4, 3] rfl (by kernel_rfl) (by kernel_rfl) (by kernel_rfl) (by kernel_rfl) (by kernel_rfl) (fun _ _ _ _ h => h) (by exact hHeld) (fun K hK => ?_)
      go_simp
      refine hK _ ?_
      clear hK K
      refine take_LC (i := 2) [5, 4, 3] rfl (by kernel_rfl) (by kernel_rfl) (by kernel_rfl) (by kernel_rfl) (by kernel_rfl) (fun _ _ _ _ h => h) (by exact hHeld) (fun K hK => ?_)
      go_simp
      refine hK _ ?_
      clear hK K
      refine take_LC (i := 3) [5, 4] rfl (by kernel_rfl) (by kernel_rfl) (by kernel_rfl) (by kernel_rfl) (by kernel_rfl) (fun _ _ _ _ h => h) (by exact hHeld) (fun K hK => ?_)
      go_simp
      refine hK _ ?_
      clear hK K
      refine take_LC (i := 4) [5] rfl (by kernel_rfl) (by kernel_rfl) (by kernel_rfl) (by kernel_rfl) (by kernel_rfl) (fun _ _ _ _ h => h) (by exact hHeld) (fun K hK => ?_)
      go_simp
      refine hK _ ?_
      clear hK K
      refine take_L (i := 5) rfl (by kernel_rfl) (by kernel_rfl) (by kernel_rfl) (by kernel_rfl) (fun _ _ _ _ h => h) (by exact hHeld) (fun K hK => ?_)
      go_simp
      refine hK _ ?_
      clear hK K
      refine take_LC (i := 6) [10, 9, 8] rfl (by kernel_rfl) (by kernel_rfl) (by kernel_rfl) (by kernel_rfl) (by kernel_rfl) (fun _ _ _ _ h => h) (by exact hHeld) (fun K hK => ?_)
      go_simp
      refine hK _ ?_
      clear hK K
      refine take_LC (i := 7) [10, 9, 8] rfl (by kernel_rfl) (by kernel_rfl) (by kernel_rfl) (by kernel_rfl) (by kernel_rfl) (fun _ _ _ _ h => h) (by exact hHeld) (fun K hK => ?_)
      go_simp
      refine hK _ ?_
      clear hK K
      refine take_LC (i := 8) [10, 9] rfl (by kernel_rfl) (by kernel_rfl) (by kernel_rfl) (by kernel_rfl) (by kernel_rfl) (fun _ _ _ _ h => h) (by exact hHeld) (fun K hK => ?_)
      go_simp
      refine hK _ ?_
      clear hK K
      refine take_LC (i := 9) [10] rfl (by kernel_rfl) (by kernel_rfl) (by kernel_rfl) (by kernel_rfl) (by kernel_rfl) (fun _ _ _ _ h => h) (by exact hHeld) (fun K hK => ?_)
      go_simp
      refine hK _ ?_
      clear hK K
      refine take_L (i := 10) rfl (by kernel_rfl) (by kernel_rfl) (by kernel_rfl) (by kernel_rfl) (fun _ _ _ _ h => h) (by exact hHeld) (fun K hK => ?_)
      go_simp
      refine hK _ ?_
      clear hK K
      have hset := H3.out.1.op HB.out.1 H3.out.2.1 H3.out.2.2.1 x y
      refine one_L (i := 11) (by kernel_rfl) rfl (fun K hK => ?_)
      go_simp
      refine hset.mono ?_
      clear hset
      rintro _ w4 ⟨rc, F1, rfl, _, _, _, _, hf1⟩
      have HE : Hid (∃ cs F', Fj J w W1 D1 T1 cs p F' w4 ∧ Kinds cs ∧ cs.length = W1 * D1 * T1 ∧ ∀ j : Nat, (∀ t, t < i + 1 → P t 0 ≠ (j : Int)) → cs.getD j 0 = bs.getD j 0) := by
        obtain ⟨h1, h2, h3, h4, h5⟩ := H3.out
        refine ⟨_, F1, hf1, opS_kinds h2 x y, by rw [opS_len]; exact h3, fun j hj => ?_⟩
        rw [opS_ne (by rw [← h5]; exact hj i (by omega))]
        exact h4 j (fun t ht => hj t (by omega))
      refine hK.out _ _ (fun h => absurd rfl h) ?_
      clear hK K hf1 H3 hHeld hne k1 k2 Hrd HP HSr HB HLt HXs
      refine done_L (by kernel_rfl) ?_ _
      go_wp2
      exact ⟨⟨i + 1, by omega, rfl, HE⟩, by simp [intOf]; omega⟩
    have hx' : ¬ (i : Int) < (ln : Int) := by omega
    have HK2 : Hid (∃ cs F', Fj J w W1 D1 T1 cs p F' wr ∧ Kinds cs ∧ cs.length = W1 * D1 * T1 ∧ ∀ j : Nat, j < n → ((∀ t, t < ln → P t 0 ≠ (j : Int)) ∨ ∃ t, t < 0 ∧ P t 0 = (j : Int)) → cs.getD j 0 = bs.getD j 0) := by
      obtain ⟨cs, F', h1, h2, h3, h4⟩ := HK1.out
      exact ⟨cs, F', h1, h2, h3, fun j _ hj => h4 j (fun t ht => (hj.resolve_right (fun ⟨t, q, _⟩ => absurd q (Nat.not_lt_zero _))) t (by omega))⟩
    clear HK1
    -- and back
    go_wp2_with fail
    go_loopw [17] (fun vx wr => ∃ i : Nat, i ≤ ln ∧ vx = .int .i64 (i : Int) ∧ Hid (∃ cs F', Fj J w W1 D1 T1 cs p F' wr ∧ Kinds cs ∧ cs.length = W1 * D1 * T1 ∧ ∀ j : Nat, j < n → ((∀ t, t < ln → P t 0 ≠ (j : Int)) ∨ ∃ t, t < i ∧ P t 0 = (j : Int)) → cs.getD j 0 = bs.getD j 0)) (fun vx _ => ln - (intOf vx).toNat)
    case atStart => exact ⟨0, by omega, rfl, HK2⟩
    case round =>
      clear HK2
      obtain ⟨i2, hi2, rfl, HK1⟩ := hrel
      by_cases hx2 : i2 < ln
      case pos =>
        have hx2' : (i2 : Int) < (ln : Int) := by omega
        obtain ⟨cs, F', hf, hk, hl, hcs⟩ := HK1.out
        obtain ⟨lb1, lo, rfl, hlb, hrd⟩ := HSr.out.2.reads hx2
        obtain ⟨x, hxx⟩ : ∃ x, P i2 0 = x := ⟨_, rfl⟩
        obtain ⟨y, hyy⟩ : ∃ y, P i2 1 = y := ⟨_, rfl⟩
        rw [hxx, hyy] at hrd
        have H2 : Hid (Fj J w W1 D1 T1 cs p F' wr ∧ Kinds cs ∧ cs.length = W1 * D1 * T1 ∧ (∀ j : Nat, j < n → ((∀ t, t < ln → P t 0 ≠ (j : Int)) ∨ ∃ t, t < i2 ∧ P t 0 = (j : Int)) → cs.getD j 0 = bs.getD j 0) ∧ P i2 0 = x) := ⟨hf, hk, hl, hcs, hxx⟩
        have x0 := (hrd wr hf.b).x
        have Hrd : Hid (∀ w', Below w.heap.size w w' → ReadsP lb1 (lo + i2 * 2) x y w') := hrd
        clear hf hk hl hcs hrd HK1 hxx hyy
        by_cases hc0 : 0 ≤ x ∧ x < (n : Int)
        case neg =>
          have HE : Hid (∃ cs F', Fj J w W1 D1 T1 cs p F' wr ∧ Kinds cs ∧ cs.length = W1 * D1 * T1 ∧ ∀ j : Nat, j < n → ((∀ t, t < ln → P t 0 ≠ (j : Int)) ∨ ∃ t, t < i2 + 1 ∧ P t 0 = (j : Int)) → cs.getD j 0 = bs.getD j 0) := by
            obtain ⟨h1, h2, h3, h4, h5⟩ := H2.out
            refine ⟨cs, F', h1, h2, h3, fun j hjn hj => h4 j hjn (hj.imp id (fun ⟨t, ht, hp⟩ => ⟨t, ?_, hp⟩))⟩
            rcases Nat.lt_or_ge t i2 with q | q
            · exact q
            · exact absurd ⟨by rw [← h5, show i2 = t by omega, hp]; omega, by rw [← h5, show i2 = t by omega, hp]; omega⟩ hc0
          clear H2 Hrd HP HSr HB HLt HXs
          by_cases hx0 : 0 ≤ x
          · have hx1 : ¬ x < (n : Int) := fun q => hc0 ⟨hx0, q⟩
            go_wp2
            exact ⟨⟨i2 + 1, by omega, rfl, HE⟩, by simp [intOf]; omega⟩
          · go_wp2
            exact ⟨⟨i2 + 1, by omega, rfl, HE⟩, by simp [intOf]; omega⟩
        obtain ⟨hx0, hx1⟩ := hc0
        obtain ⟨I, rfl⟩ := Int.eq_ofNat_of_zero_le hx0
        have hI : I < n := by omega
        obtain ⟨b, off, rfl, hlt, hck⟩ := HSr.out.1.cells I hI
        have hkb := Kinds.at HB.out.2.2.1 I
        obtain ⟨A, hA⟩ : ∃ A, bs.getD I 0 = A := ⟨_, rfl⟩
        rw [hA] at hck hkb
        obtain ⟨a0, a16⟩ := hkb
        have wA : IntKind.i64.wrap A = A := by rw [IntKind.wrap_i64]; omega
        have HAI : Hid (bs.getD I 0 = A ∧ I < n) := ⟨hA, hI⟩
        have Hck : Hid (∀ w', Below w.heap.size w w' → ReadsQ lb1 (lo + i2 * 2) b (off + I) (I : Int) y A w') := fun w' hb => ⟨Hrd.out w' hb, (hb.cell (p := ⟨b, off + I, none⟩) hlt).trans hck⟩
        clear hA hlt hck Hrd
        go_upto_region 18 with fail
        clear x0
        refine region_L (ReadsQ lb1 (lo + i2 * 2) b (off + I) (I : Int) y A) 16 (by kernel_rfl) ?_
        have hd : Below wr.heap.size wr wr.drew := (Below.refl _ wr).drew
        have H3 : Hid (Fj J w W1 D1 T1 cs p F' wr.drew ∧ Kinds cs ∧ cs.length = W1 * D1 * T1 ∧ (∀ j : Nat, j < n → ((∀ t, t < ln → P t 0 ≠ (j : Int)) ∨ ∃ t, t < i2 ∧ P t 0 = (j : Int)) → cs.getD j 0 = bs.getD j 0) ∧ P i2 0 = (I : Int)) := ⟨H2.out.1.on hd, H2.out.2⟩
        clear H2 hd
        generalize wr.drew = va at *
        have hHeld := Hck.out va H3.out.1.b
        have hne : Nonempty (Sub (ReadsQ lb1 (lo + i2 * 2) b (off + I) (I : Int) y A)) := ⟨⟨_, hHeld⟩⟩
        have k1 : ∀ s : Sub (ReadsQ lb1 (lo + i2 * 2) b (off + I) (I : Int) y A), s.w.cell? ⟨lb1, lo + i2 * 2, none⟩ = some (.int .i64 (I : Int)) := fun s => s.ok.r.x
        have k2 : ∀ s : Sub (ReadsQ lb1 (lo + i2 * 2) b (off + I) (I : Int) y A), s.w.cell? ⟨b, off + I, none⟩ = some (.int .u8 A) := fun s => s.ok.k
        refine take_L (i := 0) rfl (by kernel_rfl) (by kernel_rfl) (by kernel_rfl) (by kernel_rfl) (fun _ _ _ _ h => h) (by exact hHeld) (fun K hK => ?_)
        go_simp
        refine hK _ ?_
        clear hK K
        refine take_L (i := 1) rfl (by kernel_rfl) (by kernel_rfl) (by kernel_rfl) (by kernel_rfl) (fun _ _ _ _ h => h) (by exact hHeld) (fun K hK => ?_)
        go_simp
        refine hK _ ?_
        clear hK K
        refine take_L (i := 2) rfl (by kernel_rfl) (by kernel_rfl) (by kernel_rfl) (by kernel_rfl) (fun _ _ _ _ h => h) (by exact hHeld) (fun K hK => ?_)
        go_simp
        refine hK _ ?_
        clear hK K
        refine take_L (i := 3) rfl (by kernel_rfl) (by kernel_rfl) (by kernel_rfl) (by kernel_rfl) (fun _ _ _ _ h => h) (by exact hHeld) (fun K hK => ?_)
        go_simp
        refine hK _ ?_
        clear hK K
        refine take_L (i := 4) rfl (by kernel_rfl) (by kernel_rfl) (by kernel_rfl) (by kernel_rfl) (fun _ _ _ _ h => h) (by exact hHeld) (fun K hK => ?_)
        go_simp
        refine hK _ ?_
        clear hK K
        refine take_L (i := 5) rfl (by kernel_rfl) (by kernel_rfl) (by kernel_rfl) (by kernel_rfl) (fun _ _ _ _ h => h) (by exact hHeld) (fun K hK => ?_)
        go_simp
        refine hK _ ?_
        clear hK K
        refine take_L (i := 6) rfl (by kernel_rfl) (by kernel_rfl) (by kernel_rfl) (by kernel_rfl) (fun _ _ _ _ h => h) (by exact hHeld) (fun K hK => ?_)
        go_simp
        refine hK _ ?_
        clear hK K
        refine take_L (i := 7) rfl (by kernel_rfl) (by kernel_rfl) (by kernel_rfl) (by kernel_rfl) (fun _ _ _ _ h => h) (by exact hHeld) (fun K hK => ?_)
        go_simp
        refine hK _ ?_
        clear hK K
        refine take_L (i := 8) rfl (by kernel_rfl) (by kernel_rfl) (by kernel_rfl) (by kernel_rfl) (fun _ _ _ _ h => h) (by exact hHeld) (fun K hK => ?_)
        go_simp
        refine hK _ ?_
        clear hK K
        refine take_L (i := 9) rfl (by kernel_rfl) (by kernel_rfl) (by kernel_rfl) (by kernel_rfl) (fun _ _ _ _ h => h) (by exact hHeld) (fun K hK => ?_)
        go_simp
        refine hK _ ?_
        clear hK K
        refine take_L (i := 10) rfl (by kernel_rfl) (by kernel_rfl) (by kernel_rfl) (by kernel_rfl) (fun _ _ _ _ h => h) (by exact hHeld) (fun K hK => ?_)
        go_simp
        refine hK _ ?_
        clear hK K
        refine take_L (i := 11) rfl (by kernel_rfl) (by kernel_rfl) (by kernel_rfl) (by kernel_rfl) (fun _ _ _ _ h => h) (by exact hHeld) (fun K hK => ?_)
        go_simp
        refine hK _ ?_
        clear hK K
        refine take_L (i := 12) rfl (by kernel_rfl) (by kernel_rfl) (by kernel_rfl) (by kernel_rfl) (fun _ _ _ _ h => h) (by exact hHeld) (fun K hK => ?_)
        go_simp
        refine hK _ ?_
        clear hK K
        refine take_L (i := 13) rfl (by kernel_rfl) (by kernel_rfl) (by kernel_rfl) (by kernel_rfl) (fun _ _ _ _ h => h) (by exact hHeld) (fun K hK => ?_)
        go_simp
        refine hK _ ?_
        clear hK K
        refine take_L (i := 14) rfl (by kernel_rfl) (by kernel_rfl) (by kernel_rfl) (by kernel_rfl) (fun _ _ _ _ h => h) (by exact hHeld) (fun K hK => ?_)
        go_simp
        refine hK _ ?_
        clear hK K
        have hset := H3.out.1.op HB.out.1 H3.out.2.1 H3.out.2.2.1 (I : Int) A
        have Hrc : Hid (0 ≤ (I : Int) ∧ (I : Int) < ((W1 * D1 * T1 : Nat) : Int) ∧ 0 ≤ A ∧ A ≤ 16) := ⟨by omega, by rw [← HB.out.2.1]; omega, a0, a16⟩
        refine one_L (i := 15) (by kernel_rfl) rfl (fun K hK => ?_)
        go_simp
        refine hset.mono ?_
        clear hset
        rintro _ w4 ⟨rc, F1, rfl, hrc, _, _, _, hf1⟩
        obtain rfl : rc = 0 := hrc Hrc.out
        have HE : Hid (∃ cs F', Fj J w W1 D1 T1 cs p F' w4 ∧ Kinds cs ∧ cs.length = W1 * D1 * T1 ∧ ∀ j : Nat, j < n → ((∀ t, t < ln → P t 0 ≠ (j : Int)) ∨ ∃ t, t < i2 + 1 ∧ P t 0 = (j : Int)) → cs.getD j 0 = bs.getD j 0) := by
          obtain ⟨h1, h2, h3, h4, h5⟩ := H3.out
          have hIn : I < W1 * D1 * T1 := by rw [← HB.out.2.1]; exact HAI.out.2
          refine ⟨_, F1, hf1, opS_kinds h2 _ A, by rw [opS_len]; exact h3, fun j hjn hj => ?_⟩
          by_cases q : j = I
          · subst q
            rw [opS_at hIn h3 Hrc.out.2.2.1 Hrc.out.2.2.2, HAI.out.1]
          · rw [opS_ne (fun e => q (by omega))]
            refine h4 j hjn (hj.imp id (fun ⟨t, ht, hp⟩ => ⟨t, ?_, hp⟩))
            rcases Nat.lt_or_ge t i2 with r | r
            · exact r
            · exact absurd (show (j : Int) = (I : Int) by rw [← hp, ← h5, show t = i2 by omega]) (fun e => q (by omega))
        have hHeld4 := Hck.out w4 hf1.b
        refine hK.out _ _ (fun _ => hHeld4) ?_
        clear hK K hf1 H3 hHeld hne k1 k2 HP HSr HB HLt HXs Hrc hrc Hck HAI
        refine one_L (i := 16) (by kernel_rfl) rfl (fun K hK => ?_)
        go_simp
        refine hK.out _ _ (fun h => absurd rfl h) ?_
        clear hK K hHeld4
        refine done_L (by kernel_rfl) ?_ _
        go_wp2
        exact ⟨⟨i2 + 1, by omega, rfl, HE⟩, by simp [intOf]; omega⟩
      have hx2' : ¬ (i2 : Int) < (ln : Int) := by omega
      obtain ⟨F5, hf5⟩ : ∃ F5, Fj J w W1 D1 T1 bs p F5 wr := by
        obtain ⟨cs, F', h1, h2, h3, h4⟩ := HK1.out
        have e : cs = bs := by
          refine C.getD_ext (h3.trans HB.out.2.2.2.symm) fun j hj => h4 j (by rw [HB.out.2.1]; omega) ?_
          by_cases q : ∃ t, t < ln ∧ P t 0 = (j : Int)
          · obtain ⟨t, ht, hp⟩ := q
            exact .inr ⟨t, by omega, hp⟩
          · exact .inl (fun t ht hp => q ⟨t, ht, hp⟩)
        rw [e] at h1
        exact ⟨F', h1⟩
      have HJ5 : Hid (Fj J w W1 D1 T1 bs p F5 wr) := hf5
      clear hf5 HK1
      go_upto_region 21 with fail
      refine region_L (fun W => Src W a n bs) 20 (by kernel_rfl) ?_
      have hd : Below wr.heap.size wr wr.drew := (Below.refl _ wr).drew
      have HJ5' : Hid (Fj J w W1 D1 T1 bs p F5 wr.drew) := HJ5.out.on hd
      clear HJ5 hd
      have HJ5 := HJ5'
      clear HJ5'
      generalize wr.drew = va at *
      have hHeld : Src va a n bs := HSr.out.1.below HJ5.out.b
      have hne : Nonempty (Sub (fun W => Src W a n bs)) := ⟨⟨_, hHeld⟩⟩
      have k1 : ∀ s : Sub (fun W => Src W a n bs), (convert 22 9 (.slice a n c)).run Tryd.prog s.w = .ok (.string Z) s.w := fun s => by rw [← HXs.out.2.2]; exact conv_c s.ok
      refine take_L (i := 0) rfl (by kernel_rfl) (by kernel_rfl) (by kernel_rfl) (by kernel_rfl) (fun _ _ _ _ h => h) (by exact hHeld) (fun K hK => ?_)
      go_simp
      refine hK _ ?_
      clear hK K
      refine take_L (i := 3) rfl (by kernel_rfl) (by kernel_rfl) (by kernel_rfl) (by kernel_rfl) (fun _ _ _ _ h => h) (by exact hHeld) (fun K hK => ?_)
      go_simp
      refine hK _ ?_
      clear hK K
      refine one_L (i := 1) (by kernel_rfl) rfl (fun K hK => ?_)
      go_simp
      have hc := HJ5.out.sky HB.out.1 HB.out.2.2.1 HB.out.2.2.2 HB.out.2.1
      refine hc.mono ?_
      clear hc
      rintro _ v6 ⟨g6, c6, F6, l6, rfl, hl, hT⟩
      have e1 : l6 = la := hl.same HB.out.2.1.symm HLt.out.1
      have hp := hT.pre
      rw [e1] at hp
      clear e1 hl
      have vt6 : (convert 22 9 (.slice (some ⟨g6, 0, none⟩) n c6)).run Tryd.prog v6 = .ok (.string X) v6 := by rw [← HXs.out.1]; exact pre_text hp HLt.out.1.len (lv_kinds HLt.out.1)
      have HJ6 : Hid (Fj J w W1 D1 T1 bs p F6 v6) := hT.fj
      clear hT hp HJ5
      replace hHeld : Src v6 a n bs := HSr.out.1.below HJ6.out.b
      refine hK.out _ _ (fun _ => hHeld) ?_
      clear hK K
      refine one_L (i := 2) (by kernel_rfl) rfl (fun K hK => ?_)
      go_simp
      refine hK.out _ _ (fun _ => hHeld) ?_
      clear hK K
      refine take_L (i := 4) rfl (by kernel_rfl) (by kernel_rfl) (by kernel_rfl) (by kernel_rfl) (fun _ _ _ _ h => h) (by exact hHeld) (fun K hK => ?_)
      go_simp
      refine hK _ ?_
      clear hK K
      refine take_L (i := 5) rfl (by kernel_rfl) (by kernel_rfl) (by kernel_rfl) (by kernel_rfl) (fun _ _ _ _ h => h) (by exact hHeld) (fun K hK => ?_)
      go_simp
      refine hK _ ?_
      clear hK K
      refine take_L (i := 6) rfl (by kernel_rfl) (by kernel_rfl) (by kernel_rfl) (by kernel_rfl) (fun _ _ _ _ h => h) (by exact hHeld) (fun K hK => ?_)
      go_simp
      refine hK _ ?_
      clear hK K
      refine take_L (i := 9) rfl (by kernel_rfl) (by kernel_rfl) (by kernel_rfl) (by kernel_rfl) (fun _ _ _ _ h => h) (by exact hHeld) (fun K hK => ?_)
      go_simp
      refine hK _ ?_
      clear hK K
      refine one_L (i := 7) (by kernel_rfl) rfl (fun K hK => ?_)
      go_simp
      have hc := HJ6.out.lamp HB.out.1 HB.out.2.2.1 HB.out.2.2.2 HB.out.2.1
      refine hc.mono ?_
      clear hc
      rintro _ v7 ⟨g7, c7, F7, l7, rfl, hl, hT⟩
      have e1 : l7 = lb := hl.same HB.out.2.1.symm HLt.out.2
      have hp := hT.pre
      rw [e1] at hp
      clear e1 hl
      have vt7 : (convert 22 9 (.slice (some ⟨g7, 0, none⟩) n c7)).run Tryd.prog v7 = .ok (.string Y) v7 := by rw [← HXs.out.2.1]; exact pre_text hp HLt.out.2.len (lv_kinds HLt.out.2)
      have HJ7 : Hid (Fj J w W1 D1 T1 bs p F7 v7) := hT.fj
      clear hT hp HJ6
      replace hHeld : Src v7 a n bs := HSr.out.1.below HJ7.out.b
      refine hK.out _ _ (fun _ => hHeld) ?_
      clear hK K
      refine one_L (i := 8) (by kernel_rfl) rfl (fun K hK => ?_)
      go_simp
      refine hK.out _ _ (fun _ => hHeld) ?_
      clear hK K
      refine take_L (i := 10) rfl (by kernel_rfl) (by kernel_rfl) (by kernel_rfl) (by kernel_rfl) (fun _ _ _ _ h => h) (by exact hHeld) (fun K hK => ?_)
      go_simp
      refine hK _ ?_
      clear hK K
      refine take_L (i := 11) rfl (by kernel_rfl) (by kernel_rfl) (by kernel_rfl) (by kernel_rfl) (fun _ _ _ _ h => h) (by exact hHeld) (fun K hK => ?_)
      go_simp
      refine hK _ ?_
      clear hK K
      refine take_L (i := 12) rfl (by kernel_rfl) (by kernel_rfl) (by kernel_rfl) (by kernel_rfl) (fun _ _ _ _ h => h) (by exact hHeld) (fun K hK => ?_)
      go_simp
      refine hK _ ?_
      clear hK K
      refine take_L (i := 13) rfl (by kernel_rfl) (by kernel_rfl) (by kernel_rfl) (by kernel_rfl) (fun _ _ _ _ h => h) (by exact hHeld) (fun K hK => ?_)
      go_simp
      refine hK _ ?_
      clear hK K
      refine take_L (i := 16) rfl (by kernel_rfl) (by kernel_rfl) (by kernel_rfl) (by kernel_rfl) (fun _ _ _ _ h => h) (by exact hHeld) (fun K hK => ?_)
      go_simp
      refine hK _ ?_
      clear hK K
      refine take_L (i := 17) rfl (by kernel_rfl) (by kernel_rfl) (by kernel_rfl) (by kernel_rfl) (fun _ _ _ _ h => h) (by exact hHeld) (fun K hK => ?_)
      go_simp
      refine hK _ ?_
      clear hK K
      refine one_L (i := 14) (by kernel_rfl) rfl (fun K hK => ?_)
      go_simp
      have hc := HJ7.out.kinds HB.out.1 HB.out.2.2.1 HB.out.2.2.2 HB.out.2.1
      refine hc.mono ?_
      clear hc
      rintro _ v8 ⟨g8, c8, F8, rfl, hT⟩
      have hp := hT.pre
      have vt8 : (convert 22 9 (.slice (some ⟨g8, 0, none⟩) n c8)).run Tryd.prog v8 = .ok (.string Z) v8 := by rw [← HXs.out.2.2]; exact pre_text hp (HB.out.2.2.2.trans HB.out.2.1.symm) HB.out.2.2.1
      have HJ8 : Hid (Fj J w W1 D1 T1 bs p F8 v8) := hT.fj
      clear hT hp HJ7
      replace hHeld : Src v8 a n bs := HSr.out.1.below HJ8.out.b
      refine hK.out _ _ (fun _ => hHeld) ?_
      clear hK K
      refine one_L (i := 15) (by kernel_rfl) rfl (fun K hK => ?_)
      go_simp
      refine hK.out _ _ (fun _ => hHeld) ?_
      clear hK K
      refine take_L (i := 18) rfl (by kernel_rfl) (by kernel_rfl) (by kernel_rfl) (by kernel_rfl) (fun _ _ _ _ h => h) (by exact hHeld) (fun K hK => ?_)
      go_simp
      refine hK _ ?_
      clear hK K
      refine take_L (i := 19) rfl (by kernel_rfl) (by kernel_rfl) (by kernel_rfl) (by kernel_rfl) (fun _ _ _ _ h => h) (by exact hHeld) (fun K hK => ?_)
      go_simp
      refine hK _ ?_
      clear hK K
      refine one_L (i := 20) (by kernel_rfl) rfl (fun K hK => ?_)
      go_simp
      refine hK.out _ _ (fun h => absurd rfl h) ?_
      clear hK K
      refine done_L (by kernel_rfl) ?_ _
      have R := HP.out v8 HJ8.out.b
      clear HP HJ8 HB HLt HXs HSr k1 hne hHeld
      go_wp2
      first | exact R | (go_ret; exact R)
end Go.Proofs.YtmfjmcaaoljjlaaDoor
