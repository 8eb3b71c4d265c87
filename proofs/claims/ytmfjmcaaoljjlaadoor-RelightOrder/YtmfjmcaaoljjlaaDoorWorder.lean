/-
  RelightOrder: cells that are set in one order or the other end with the same light.
-/
import Derived.Test.YtmfjmcaaoljjlaaDoorWd
import Derived.Test.YtmfjmcaaoljjlaaDoorWback
set_option maxRecDepth 20000
namespace Go.Proofs.YtmfjmcaaoljjlaaDoor
open C Go.RowKit L
attribute [local go_sem] Oper.semAt_some

/-- The cells behind the Sets of R, each of another place. -/
def SetR (n : Nat) (P : Nat → Nat → Int) (R : Nat → Prop) (bs es : List Int) : Prop :=
  ∀ j : Nat, j < n → (∀ t, R t → P t 0 = (j : Int) → (0 ≤ P t 1 ∧ P t 1 ≤ 16) → es.getD j 0 = P t 1) ∧ ((∀ t, R t → P t 0 = (j : Int) → ¬ (0 ≤ P t 1 ∧ P t 1 ≤ 16)) → es.getD j 0 = bs.getD j 0)
theorem SetR.step {n : Nat} {P : Nat → Nat → Int} {R R' : Nat → Prop} {bs es : List Int} (h : SetR n P R bs es) (hl : es.length = n) (s : Nat) (hd : ∀ t, R t → P t 0 ≠ P s 0) (hR : ∀ t, R' t ↔ R t ∨ t = s) : SetR n P R' bs (opS n es (P s 0) (P s 1)) := by
  intro j hj
  by_cases e : P s 0 = (j : Int)
  · by_cases v : 0 ≤ P s 1 ∧ P s 1 ≤ 16
    · refine ⟨fun t ht hp _ => ?_, fun hno => absurd v (hno s ((hR s).2 (.inr rfl)) e)⟩
      rcases (hR t).1 ht with r | r
      · exact absurd (hp.trans e.symm) (hd t r)
      · subst r
        rw [e]
        exact opS_at hj hl v.1 v.2
    · have e1 : opS n es (P s 0) (P s 1) = es := if_neg (fun q => v q.2.2)
      rw [e1]
      refine ⟨fun t ht hp hv => ?_, fun hno => (h j hj).2 (fun t ht => hno t ((hR t).2 (.inl ht)))⟩
      rcases (hR t).1 ht with r | r
      · exact (h j hj).1 t r hp hv
      · exact absurd (by rw [← r]; exact hv) v
  · rw [opS_ne e]
    refine ⟨fun t ht hp hv => ?_, fun hno => (h j hj).2 (fun t ht => hno t ((hR t).2 (.inl ht)))⟩
    rcases (hR t).1 ht with r | r
    · exact (h j hj).1 t r hp hv
    · exact absurd (by rw [← r]; exact hp) e
theorem SetR.none {n : Nat} {P : Nat → Nat → Int} {R : Nat → Prop} {bs : List Int} (hR : ∀ t, ¬ R t) : SetR n P R bs bs := fun _ _ => ⟨fun t ht => absurd ht (hR t), fun _ => rfl⟩
theorem SetR.same {n : Nat} {P : Nat → Nat → Int} {R R' : Nat → Prop} {bs es fs : List Int} (h : SetR n P R bs es) (h' : SetR n P R' bs fs) (hR : ∀ t, R t ↔ R' t) (hl : es.length = n) (hl' : fs.length = n) : es = fs := by
  refine C.getD_ext (hl.trans hl'.symm) fun j hj => ?_
  have hj : j < n := by omega
  by_cases q : ∃ t, R t ∧ P t 0 = (j : Int) ∧ (0 ≤ P t 1 ∧ P t 1 ≤ 16)
  · obtain ⟨t, ht, hp, hv⟩ := q
    rw [(h j hj).1 t ht hp hv, (h' j hj).1 t ((hR t).1 ht) hp hv]
  · rw [(h j hj).2 (fun t ht hp hv => q ⟨t, ht, hp, hv⟩), (h' j hj).2 (fun t ht hp hv => q ⟨t, (hR t).2 ht, hp, hv⟩)]
/-- The two fields while the Sets go on. -/
structure Ord (J : JSpec) (w0 : World) (W D T ln : Nat) (P : Nat → Nat → Int) (bs : List Int) (p q : Nat) (i k : Nat) (w : World) : Prop where
  x : ∃ es fs F G, Duo J w0 W D T es fs p q F G w ∧ (Kinds es ∧ es.length = W * D * T ∧ SetR (W * D * T) P (fun t => t < i) bs es) ∧ Kinds fs ∧ fs.length = W * D * T ∧ SetR (W * D * T) P (fun t => k ≤ t ∧ t < ln) bs fs
set_option maxRecDepth 1000000 in
set_option maxHeartbeats 16000000 in
theorem relightOrder_walk (J : JSpec) (W D T : Int) (a la0 : Option Addr) (n c ln lc : Nat) (bs : List Int) (P : Nat → Nat → Int) (w : World) (hG : J.G w) (hn : n ≤ 9223372036854775807) (hln : ln ≤ 9223372036854775807) (hS : Src w a n bs) (hO : Ops w la0 ln P) :
    Calls Tryd.prog 6 #[.int .i64 W, .int .i64 D, .int .i64 T, .slice a n c, .slice la0 ln lc] w fun e w' => e = .returned (.bool true) ∧ Below w.heap.size w w' := by
  obtain ⟨Post, hPost⟩ : ∃ Post : Ending → World → Prop, Post = fun e w' => e = .returned (.bool true) ∧ Below w.heap.size w w' := ⟨_, rfl⟩
  rw [← hPost]
  have HP : Hid (∀ w', Below w.heap.size w w' → Post (.returned (.bool true)) w') := fun w' h => by rw [hPost]; exact ⟨rfl, h⟩
  clear hPost
  have HSr : Hid (Src w a n bs ∧ Ops w la0 ln P) := ⟨hS, hO⟩
  have haw := awake_c J w hG
  have HG0 : Hid (J.G w) := hG
  clear hS hG hO
  go_enter Tryd.func6, Tryd.ntmps6
  go_wp2_with fail
  refine haw.mono ?_
  rintro _ w1 ⟨rfl, hG1, hb1⟩
  have H1 : Hid (Below w.heap.size w w1) := hb1
  clear haw hG1 hb1
  by_cases hn2 : n ≤ 2000
  case neg =>
    have R := HP.out w1 H1.out
    clear HP HSr H1
    go_wp2
    first | exact R | (go_ret; exact R)
  by_cases hl6 : ln ≤ 60
  case neg =>
    have R := HP.out w1 H1.out
    clear HP HSr H1
    go_wp2
    first | exact R | (go_ret; exact R)
  -- are the places apart?
  go_wp2_with fail
  go_loopw [12] (fun vx wr => ∃ i : Nat, i ≤ ln ∧ vx = .int .i64 (i : Int) ∧ Hid (Below w.heap.size w wr ∧ ∀ s t, s < t → t < i → P s 0 ≠ P t 0)) (fun vx _ => ln - (intOf vx).toNat)
  case atStart => exact ⟨0, by omega, rfl, H1.out, fun _ _ _ h => absurd h (Nat.not_lt_zero _)⟩
  case round =>
    clear H1
    obtain ⟨i, hi, rfl, HI⟩ := hrel
    by_cases hx : i < ln
    case pos =>
      have hx' : (i : Int) < (ln : Int) := by omega
      go_wp2_with fail
      go_loopw [13] (fun vx wr => ∃ k : Nat, k ≤ i ∧ vx = .int .i64 (k : Int) ∧ Hid (Below w.heap.size w wr ∧ (∀ s t, s < t → t < i → P s 0 ≠ P t 0) ∧ ∀ s, s < k → P s 0 ≠ P i 0)) (fun vx _ => i - (intOf vx).toNat)
      case atStart => exact ⟨0, by omega, rfl, HI.out.1, HI.out.2, fun _ h => absurd h (Nat.not_lt_zero _)⟩
      case round =>
        clear HI
        obtain ⟨k, hk, rfl, HI⟩ := hrel
        by_cases hy : k < i
        case pos =>
          have hy' : (k : Int) < (i : Int) := by omega
          have hkl : k < ln := by omega
          have hkl' : (k : Int) < (ln : Int) := by omega
          obtain ⟨lb, lo, rfl, hlb, hrd⟩ := HSr.out.2.reads hx
          obtain ⟨lb2, lo2, e2, _, hrd2⟩ := HSr.out.2.reads hkl
          cases e2
          obtain ⟨x, hxx⟩ : ∃ x, P i 0 = x := ⟨_, rfl⟩
          obtain ⟨y, hyy⟩ : ∃ y, P i 1 = y := ⟨_, rfl⟩
          obtain ⟨x2, hxx2⟩ : ∃ x, P k 0 = x := ⟨_, rfl⟩
          obtain ⟨y2, hyy2⟩ : ∃ y, P k 1 = y := ⟨_, rfl⟩
          rw [hxx, hyy] at hrd
          rw [hxx2, hyy2] at hrd2
          have HE : Hid (P i 0 = x ∧ P k 0 = x2) := ⟨hxx, hxx2⟩
          have Hrd : Hid ((∀ w', Below w.heap.size w w' → ReadsP lb (lo + i * 2) x y w') ∧ ∀ w', Below w.heap.size w w' → ReadsP lb (lo + k * 2) x2 y2 w') := ⟨hrd, hrd2⟩
          clear hxx hyy hxx2 hyy2 hrd hrd2
          go_upto_region 10 with fail
          refine region_L (fun W => ReadsP lb (lo + i * 2) x y W ∧ ReadsP lb (lo + k * 2) x2 y2 W) 99 (by kernel_rfl) ?_
          have hd : Below wr.heap.size wr wr.drew := (Below.refl _ wr).drew
          have HB2 : Hid (Below w.heap.size w wr.drew ∧ (∀ s t, s < t → t < i → P s 0 ≠ P t 0) ∧ ∀ s, s < k → P s 0 ≠ P i 0) := ⟨HI.out.1.trans (hd.mono HI.out.1.size), HI.out.2⟩
          clear HI hd
          generalize wr.drew = va at *
          have hHeld := And.intro (Hrd.out.1 va HB2.out.1) (Hrd.out.2 va HB2.out.1)
          have hne : Nonempty (Sub (fun W => ReadsP lb (lo + i * 2) x y W ∧ ReadsP lb (lo + k * 2) x2 y2 W)) := ⟨⟨_, hHeld⟩⟩
          have k1 : ∀ s : Sub (fun W => ReadsP lb (lo + i * 2) x y W ∧ ReadsP lb (lo + k * 2) x2 y2 W), s.w.cell? ⟨lb, lo + i * 2, none⟩ = some (.int .i64 x) := fun s => s.ok.1.x
          have k2 : ∀ s : Sub (fun W => ReadsP lb (lo + i * 2) x y W ∧ ReadsP lb (lo + k * 2) x2 y2 W), s.w.cell? ⟨lb, lo + k * 2, none⟩ = some (.int .i64 x2) := fun s => s.ok.2.x
          refine take_L (i := 0) rfl (by kernel_rfl) (by kernel_rfl) (by kernel_rfl) (by kernel_rfl) (fun _ _ _ _ h => h) (by exact hHeld) (fun K hK => ?_)
          go_simp
          refine hK _ ?_
          clear hK K
          refine take_L (i := 1) rfl (by kernel_rfl) (by kernel_rfl) (by kernel_rfl) (by kernel_rfl) (fun _ _ _ _ h => h) (by exact hHeld) (fun K hK => ?_)
          go_simp
          refine hK _ ?_
          clear hK K
          refine take_L (i := 2) rfl (by kernel_rfl) (by kernel_rfl) (by kernel_rfl) (by kernel_rfl) (fun _ _ _ _ h => h) (by exact hHeld) (fun K hK => ?_)
          go_simp
          refine hK _ ?_
          clear hK K
          refine take_L (i := 3) rfl (by kernel_rfl) (by kernel_rfl) (by kernel_rfl) (by kernel_rfl) (fun _ _ _ _ h => h) (by exact hHeld) (fun K hK => ?_)
          go_simp
          refine hK _ ?_
          clear hK K
          refine take_L (i := 4) rfl (by kernel_rfl) (by kernel_rfl) (by kernel_rfl) (by kernel_rfl) (fun _ _ _ _ h => h) (by exact hHeld) (fun K hK => ?_)
          go_simp
          refine hK _ ?_
          clear hK K
          refine take_L (i := 5) rfl (by kernel_rfl) (by kernel_rfl) (by kernel_rfl) (by kernel_rfl) (fun _ _ _ _ h => h) (by exact hHeld) (fun K hK => ?_)
          go_simp
          refine hK _ ?_
          clear hK K
          refine take_L (i := 6) rfl (by kernel_rfl) (by kernel_rfl) (by kernel_rfl) (by kernel_rfl) (fun _ _ _ _ h => h) (by exact hHeld) (fun K hK => ?_)
          go_simp
          refine hK _ ?_
          clear hK K
          refine take_L (i := 7) rfl (by kernel_rfl) (by kernel_rfl) (by kernel_rfl) (by kernel_rfl) (fun _ _ _ _ h => h) (by exact hHeld) (fun K hK => ?_)
          go_simp
          refine hK _ ?_
          clear hK K
          refine take_L (i := 8) rfl (by kernel_rfl) (by kernel_rfl) (by kernel_rfl) (by kernel_rfl) (fun _ _ _ _ h => h) (by exact hHeld) (fun K hK => ?_)
          go_simp
          refine hK _ ?_
          clear hK K
          refine take_L (i := 9) rfl (by kernel_rfl) (by kernel_rfl) (by kernel_rfl) (by kernel_rfl) (fun _ _ _ _ h => h) (by exact hHeld) (fun K hK => ?_)
          go_simp
          refine hK _ ?_
          clear hK K
          refine take_L (i := 10) rfl (by kernel_rfl) (by kernel_rfl) (by kernel_rfl) (by kernel_rfl) (fun _ _ _ _ h => h) (by exact hHeld) (fun K hK => ?_)
          go_simp
          refine hK _ ?_
          clear hK K
          refine done_L (by kernel_rfl) ?_ _
          by_cases hxe : x2 = x
          case pos =>
            have R := HP.out va HB2.out.1
            clear HP HSr HB2 Hrd HE hHeld hne k1 k2 HG0
            go_wp2
            first | exact R | (go_ret; exact R)
          have hxe' : (x2 == x) = false := by simpa using hxe
          have HI2 : Hid (Below w.heap.size w va ∧ (∀ s t, s < t → t < i → P s 0 ≠ P t 0) ∧ ∀ s, s < k + 1 → P s 0 ≠ P i 0) := by
            refine ⟨HB2.out.1, HB2.out.2.1, fun s hs => ?_⟩
            by_cases q : s = k
            · rw [q, HE.out.1, HE.out.2]; exact hxe
            · exact HB2.out.2.2 s (by omega)
          clear HP HSr HB2 Hrd HE hHeld hne k1 k2 HG0
          go_wp2
          exact ⟨⟨k + 1, by omega, rfl, HI2⟩, by simp [intOf]; omega⟩
        have hy' : ¬ (k : Int) < (i : Int) := by omega
        have HI2 : Hid (Below w.heap.size w wr ∧ ∀ s t, s < t → t < i + 1 → P s 0 ≠ P t 0) := by
          refine ⟨HI.out.1, fun s t h1 h2 => ?_⟩
          by_cases q : t = i
          · subst q; exact HI.out.2.2 s (by omega)
          · exact HI.out.2.1 s t h1 (by omega)
        clear HI HP HSr HG0
        go_wp2
        exact ⟨⟨i + 1, by omega, rfl, HI2⟩, by simp [intOf]; omega⟩
    have hx' : ¬ (i : Int) < (ln : Int) := by omega
    have HA : Hid (∀ s t, s < t → t < ln → P s 0 ≠ P t 0) := fun s t h1 h2 => HI.out.2 s t h1 (by omega)
    have H1 : Hid (J.G wr ∧ Below w.heap.size w wr) := ⟨J.gon HG0.out HI.out.1, HI.out.1⟩
    clear HI HG0
    -- two fields
    have hnew := J.new W D T a n c bs wr H1.out.1 (by omega) (HSr.out.1.below H1.out.2)
    go_wp2_with fail
    refine hnew.mono ?_
    clear hnew
    intro e2 w2 hnw
    have hnew2 := J.new W D T a n c bs w2
    by_cases hok : OkDims W D T n ∧ Kinds bs
    case neg =>
      obtain ⟨cc, hcc, rfl, hb2⟩ := newas_no hnw hok
      have hb02 := H1.out.2.trans (hb2.mono H1.out.2.size)
      replace hnew2 := hnew2 (J.gon H1.out.1 hb2) (by omega) (HSr.out.1.below hb02)
      have Hcc : Hid ((cc = 1 ∧ ¬ OkDims W D T n) ∨ (cc = 10 ∧ OkDims W D T n)) := hcc
      clear hnw hcc
      go_wp2_with fail
      refine hnew2.mono ?_
      clear hnew2
      intro e3 w3 hnw2
      obtain ⟨cd, hcd, rfl, hb3⟩ := newas_no hnw2 hok
      obtain ⟨rfl, hc0⟩ := codes_same Hcc.out hcd
      have R := HP.out w3 (hb02.trans (hb3.mono hb02.size))
      have hc1 : (cd != 0) = true := by simpa using hc0
      clear hnw2 hcd hb2 hb3 hb02 HP HSr H1 Hcc hok HA
      go_wp2
      first | exact R | (go_ret; exact R)
    obtain ⟨p, rfl, ⟨F, W1, D1, T1, rfl, rfl, rfl, hA, hF⟩, hb2⟩ := newas_ok hnw hok.1 hok.2
    have hb02 := H1.out.2.trans (hb2.mono H1.out.2.size)
    have HJ2 : Hid (Fj J w W1 D1 T1 bs p F w2) := ⟨J.gon H1.out.1 hb2, hA, hb02, fun j hj => Nat.le_trans H1.out.2.size (hF j hj)⟩
    have HB : Hid (Bx W1 D1 T1 ∧ n = W1 * D1 * T1 ∧ Kinds bs ∧ bs.length = W1 * D1 * T1) := ⟨(dims_bx hok.1).1, (dims_bx hok.1).2, hok.2, by rw [HSr.out.1.len]; exact (dims_bx hok.1).2⟩
    replace hnew2 := hnew2 HJ2.out.g (by omega) (HSr.out.1.below hb02)
    have Hok : Hid (OkDims (W1 : Int) (D1 : Int) (T1 : Int) n) := hok.1
    clear hnw hA hF hb2 hb02 hok H1
    go_wp2_with fail
    refine hnew2.mono ?_
    clear hnew2
    intro e3 w3 hnw2
    obtain ⟨q, rfl, ⟨G, W2, D2, T2, hW2, hD2, hT2, hA2, hF2⟩, hb3⟩ := newas_ok hnw2 Hok.out HB.out.2.2.1
    obtain rfl : W1 = W2 := by omega
    obtain rfl : D1 = D2 := by omega
    obtain rfl : T1 = T2 := by omega
    have HX : Hid (Ord J w W1 D1 T1 ln P bs p q 0 ln w3) := ⟨bs, bs, F, G, duo_new HJ2.out hb3 hA2 hF2, ⟨HB.out.2.2.1, HB.out.2.2.2, .none (fun _ h => absurd h (Nat.not_lt_zero _))⟩, HB.out.2.2.1, HB.out.2.2.2, .none (fun _ h => by omega)⟩
    clear hnw2 hW2 hD2 hT2 hA2 hF2 hb3 HJ2 Hok
    go_wp2_with fail
    go_loopw [18] (fun vx wr => ∃ i : Nat, i ≤ ln ∧ vx = .int .i64 (i : Int) ∧ Hid (Ord J w W1 D1 T1 ln P bs p q i (ln - i) wr)) (fun vx _ => ln - (intOf vx).toNat)
    case atStart => exact ⟨0, by omega, rfl, HX.out⟩
    case round =>
      clear HX
      obtain ⟨i, hi, rfl, HI⟩ := hrel
      by_cases hx : i < ln
      case pos =>
        have hx' : (i : Int) < (ln : Int) := by omega
        obtain ⟨M, hM⟩ : ∃ M, ln - 1 = M := ⟨_, rfl⟩
        obtain ⟨z, hz⟩ : ∃ z, M - i = z := ⟨_, rfl⟩
        have hzl : z < ln := by omega
        have wM : IntKind.i64.wrap ((ln : Int) - 1) = (M : Int) := by rw [IntKind.wrap_i64]; omega
        have wz : IntKind.i64.wrap ((M : Int) - (i : Int)) = (z : Int) := by rw [IntKind.wrap_i64]; omega
        have hzl' : (z : Int) < (ln : Int) := by omega
        obtain ⟨lb, lo, rfl, hlb, hrd⟩ := HSr.out.2.reads hx
        obtain ⟨lb2, lo2, e2, _, hrd2⟩ := HSr.out.2.reads hzl
        cases e2
        obtain ⟨x, hxx⟩ : ∃ x, P i 0 = x := ⟨_, rfl⟩
        obtain ⟨y, hyy⟩ : ∃ y, P i 1 = y := ⟨_, rfl⟩
        obtain ⟨x2, hxx2⟩ : ∃ x, P z 0 = x := ⟨_, rfl⟩
        obtain ⟨y2, hyy2⟩ : ∃ y, P z 1 = y := ⟨_, rfl⟩
        rw [hxx, hyy] at hrd
        rw [hxx2, hyy2] at hrd2
        obtain ⟨es, fs, F5, G5, hduo, he, hf⟩ := HI.out.x
        have hse := he.2.2.step he.2.1 i (fun t ht => HA.out t i ht (by omega)) (R' := fun t => t < i + 1) (fun t => by omega)
        have hsf := hf.2.2.step hf.2.1 z (fun t ht q => HA.out z t (by have := ht.1; omega) ht.2 q.symm) (R' := fun t => ln - (i + 1) ≤ t ∧ t < ln) (fun t => by constructor <;> intro q <;> omega)
        rw [hxx, hyy] at hse
        rw [hxx2, hyy2] at hsf
        have Hrd : Hid ((∀ w', Below w.heap.size w w' → ReadsP lb (lo + i * 2) x y w') ∧ ∀ w', Below w.heap.size w w' → ReadsP lb (lo + z * 2) x2 y2 w') := ⟨hrd, hrd2⟩
        have HD : Hid (Duo J w W1 D1 T1 es fs p q F5 G5 wr) := hduo
        have HQ : Hid ((Kinds es ∧ es.length = W1 * D1 * T1 ∧ SetR (W1 * D1 * T1) P (fun t => t < i + 1) bs (opS (W1 * D1 * T1) es x y)) ∧ Kinds fs ∧ fs.length = W1 * D1 * T1 ∧ SetR (W1 * D1 * T1) P (fun t => ln - (i + 1) ≤ t ∧ t < ln) bs (opS (W1 * D1 * T1) fs x2 y2)) := ⟨⟨he.1, he.2.1, hse⟩, hf.1, hf.2.1, hsf⟩
        clear hxx hyy hxx2 hyy2 hrd hrd2 hduo he hf hse hsf HI HA hM hz
        go_upto_region 19 with fail
        refine region_L (ReadsP lb (lo + i * 2) x y) 99 (by kernel_rfl) ?_
        have hd : Below wr.heap.size wr wr.drew := (Below.refl _ wr).drew
        have HD2 : Hid (Duo J w W1 D1 T1 es fs p q F5 G5 wr.drew) := HD.out.on hd
        clear HD hd
        generalize wr.drew = va at *
        have hHeld := Hrd.out.1 va HD2.out.f.b
        have hne : Nonempty (Sub (ReadsP lb (lo + i * 2) x y)) := ⟨⟨_, hHeld⟩⟩
        have k1 : ∀ s : Sub (ReadsP lb (lo + i * 2) x y), s.w.cell? ⟨lb, lo + i * 2, none⟩ = some (.int .i64 x) := fun s => s.ok.x
        have k2 : ∀ s : Sub (ReadsP lb (lo + i * 2) x y), s.w.cell? ⟨lb, lo + i * 2 + 1, none⟩ = some (.int .i64 y) := fun s => s.ok.y
        refine take_L (i := 0) rfl (by kernel_rfl) (by kernel_rfl) (by kernel_rfl) (by kernel_rfl) (fun _ _ _ _ h => h) (by exact hHeld) (fun K hK => ?_)
        go_simp
        refine hK _ ?_
        clear hK K
        refine take_L (i := 1) rfl (by kernel_rfl) (by kernel_rfl) (by kernel_rfl) (by kernel_rfl) (fun _ _ _ _ h => h) (by exact hHeld) (fun K hK => ?_)
        go_simp
        refine hK _ ?_
        clear hK K
        refine take_L (i := 2) rfl (by kernel_rfl) (by kernel_rfl) (by kernel_rfl) (by kernel_rfl) (fun _ _ _ _ h => h) (by exact hHeld) (fun K hK => ?_)
        go_simp
        refine hK _ ?_
        clear hK K
        refine take_L (i := 3) rfl (by kernel_rfl) (by kernel_rfl) (by kernel_rfl) (by kernel_rfl) (fun _ _ _ _ h => h) (by exact hHeld) (fun K hK => ?_)
        go_simp
        refine hK _ ?_
        clear hK K
        refine take_L (i := 4) rfl (by kernel_rfl) (by kernel_rfl) (by kernel_rfl) (by kernel_rfl) (fun _ _ _ _ h => h) (by exact hHeld) (fun K hK => ?_)
        go_simp
        refine hK _ ?_
        clear hK K
        refine take_L (i := 5) rfl (by kernel_rfl) (by kernel_rfl) (by kernel_rfl) (by kernel_rfl) (fun _ _ _ _ h => h) (by exact hHeld) (fun K hK => ?_)
        go_simp
        refine hK _ ?_
        clear hK K
        refine take_L (i := 6) rfl (by kernel_rfl) (by kernel_rfl) (by kernel_rfl) (by kernel_rfl) (fun _ _ _ _ h => h) (by exact hHeld) (fun K hK => ?_)
        go_simp
        refine hK _ ?_
        clear hK K
        refine take_L (i := 7) rfl (by kernel_rfl) (by kernel_rfl) (by kernel_rfl) (by kernel_rfl) (fun _ _ _ _ h => h) (by exact hHeld) (fun K hK => ?_)
        go_simp
        refine hK _ ?_
        clear hK K
        refine take_L (i := 8) rfl (by kernel_rfl) (by kernel_rfl) (by kernel_rfl) (by kernel_rfl) (fun _ _ _ _ h => h) (by exact hHeld) (fun K hK => ?_)
        go_simp
        refine hK _ ?_
        clear hK K
        refine take_L (i := 9) rfl (by kernel_rfl) (by kernel_rfl) (by kernel_rfl) (by kernel_rfl) (fun _ _ _ _ h => h) (by exact hHeld) (fun K hK => ?_)
        go_simp
        refine hK _ ?_
        clear hK K
        refine take_L (i := 10) rfl (by kernel_rfl) (by kernel_rfl) (by kernel_rfl) (by kernel_rfl) (fun _ _ _ _ h => h) (by exact hHeld) (fun K hK => ?_)
        go_simp
        refine hK _ ?_
        clear hK K
        have hset := HD2.out.f.op HB.out.1 HQ.out.1.1 HQ.out.1.2.1 x y
        refine one_L (i := 11) (by kernel_rfl) rfl (fun K hK => ?_)
        go_simp
        refine hset.mono ?_
        clear hset
        rintro _ w4 ⟨rc, F6, rfl, _, _, ho, hs, hf1⟩
        have HD4 : Hid (Duo J w W1 D1 T1 (opS (W1 * D1 * T1) es x y) fs p q F6 G5 w4) := HD2.out.stepF ho hs hf1
        replace hHeld := Hrd.out.1 w4 HD4.out.f.b
        refine hK.out _ _ (fun _ => hHeld) ?_
        clear hK K ho hs hf1 HD2 hHeld hne k1 k2
        refine done_L (by kernel_rfl) ?_ _
        go_upto_region 20 with fail
        refine region_L (ReadsP lb (lo + z * 2) x2 y2) 99 (by kernel_rfl) ?_
        have hd : Below w4.heap.size w4 w4.drew := (Below.refl _ w4).drew
        have HD5 : Hid (Duo J w W1 D1 T1 (opS (W1 * D1 * T1) es x y) fs p q F6 G5 w4.drew) := HD4.out.on hd
        clear HD4 hd
        generalize w4.drew = vb at *
        have hHeld := Hrd.out.2 vb HD5.out.f.b
        have hne : Nonempty (Sub (ReadsP lb (lo + z * 2) x2 y2)) := ⟨⟨_, hHeld⟩⟩
        have k1 : ∀ s : Sub (ReadsP lb (lo + z * 2) x2 y2), s.w.cell? ⟨lb, lo + z * 2, none⟩ = some (.int .i64 x2) := fun s => s.ok.x
        have k2 : ∀ s : Sub (ReadsP lb (lo + z * 2) x2 y2), s.w.cell? ⟨lb, lo + z * 2 + 1, none⟩ = some (.int .i64 y2) := fun s => s.ok.y
        refine take_L (i := 0) rfl (by kernel_rfl) (by kernel_rfl) (by kernel_rfl) (by kernel_rfl) (fun _ _ _ _ h => h) (by exact hHeld) (fun K hK => ?_)
        go_simp
        refine hK _ ?_
        clear hK K
        refine take_L (i := 1) rfl (by kernel_rfl) (by kernel_rfl) (by kernel_rfl) (by kernel_rfl) (fun _ _ _ _ h => h) (by exact hHeld) (fun K hK => ?_)
        go_simp
        refine hK _ ?_
        clear hK K
        refine take_L (i := 2) rfl (by kernel_rfl) (by kernel_rfl) (by kernel_rfl) (by kernel_rfl) (fun _ _ _ _ h => h) (by exact hHeld) (fun K hK => ?_)
        go_simp
        refine hK _ ?_
        clear hK K
        refine take_L (i := 3) rfl (by kernel_rfl) (by kernel_rfl) (by kernel_rfl) (by kernel_rfl) (fun _ _ _ _ h => h) (by exact hHeld) (fun K hK => ?_)
        go_simp
        refine hK _ ?_
        clear hK K
        refine take_L (i := 4) rfl (by kernel_rfl) (by kernel_rfl) (by kernel_rfl) (by kernel_rfl) (fun _ _ _ _ h => h) (by exact hHeld) (fun K hK => ?_)
        go_simp
        refine hK _ ?_
        clear hK K
        refine take_L (i := 5) rfl (by kernel_rfl) (by kernel_rfl) (by kernel_rfl) (by kernel_rfl) (fun _ _ _ _ h => h) (by exact hHeld) (fun K hK => ?_)
        go_simp
        refine hK _ ?_
        clear hK K
        refine take_L (i := 6) rfl (by kernel_rfl) (by kernel_rfl) (by kernel_rfl) (by kernel_rfl) (fun _ _ _ _ h => h) (by exact hHeld) (fun K hK => ?_)
        go_simp
        refine hK _ ?_
        clear hK K
        refine take_L (i := 7) rfl (by kernel_rfl) (by kernel_rfl) (by kernel_rfl) (by kernel_rfl) (fun _ _ _ _ h => h) (by exact hHeld) (fun K hK => ?_)
        go_simp
        refine hK _ ?_
        clear hK K
        refine take_L (i := 8) rfl (by kernel_rfl) (by kernel_rfl) (by kernel_rfl) (by kernel_rfl) (fun _ _ _ _ h => h) (by exact hHeld) (fun K hK => ?_)
        go_simp
        refine hK _ ?_
        clear hK K
        refine take_L (i := 9) rfl (by kernel_rfl) (by kernel_rfl) (by kernel_rfl) (by kernel_rfl) (fun _ _ _ _ h => h) (by exact hHeld) (fun K hK => ?_)
        go_simp
        refine hK _ ?_
        clear hK K
        refine take_L (i := 10) rfl (by kernel_rfl) (by kernel_rfl) (by kernel_rfl) (by kernel_rfl) (fun _ _ _ _ h => h) (by exact hHeld) (fun K hK => ?_)
        go_simp
        refine hK _ ?_
        clear hK K
        refine take_L (i := 11) rfl (by kernel_rfl) (by kernel_rfl) (by kernel_rfl) (by kernel_rfl) (fun _ _ _ _ h => h) (by exact hHeld) (fun K hK => ?_)
        go_simp
        refine hK _ ?_
        clear hK K
        refine take_L (i := 12) rfl (by kernel_rfl) (by kernel_rfl) (by kernel_rfl) (by kernel_rfl) (fun _ _ _ _ h => h) (by exact hHeld) (fun K hK => ?_)
        go_simp
        refine hK _ ?_
        clear hK K
        refine take_L (i := 13) rfl (by kernel_rfl) (by kernel_rfl) (by kernel_rfl) (by kernel_rfl) (fun _ _ _ _ h => h) (by exact hHeld) (fun K hK => ?_)
        go_simp
        refine hK _ ?_
        clear hK K
        refine take_L (i := 14) rfl (by kernel_rfl) (by kernel_rfl) (by kernel_rfl) (by kernel_rfl) (fun _ _ _ _ h => h) (by exact hHeld) (fun K hK => ?_)
        go_simp
        refine hK _ ?_
        clear hK K
        refine take_L (i := 15) rfl (by kernel_rfl) (by kernel_rfl) (by kernel_rfl) (by kernel_rfl) (fun _ _ _ _ h => h) (by exact hHeld) (fun K hK => ?_)
        go_simp
        refine hK _ ?_
        clear hK K
        refine take_L (i := 16) rfl (by kernel_rfl) (by kernel_rfl) (by kernel_rfl) (by kernel_rfl) (fun _ _ _ _ h => h) (by exact hHeld) (fun K hK => ?_)
        go_simp
        refine hK _ ?_
        clear hK K
        refine take_L (i := 17) rfl (by kernel_rfl) (by kernel_rfl) (by kernel_rfl) (by kernel_rfl) (fun _ _ _ _ h => h) (by exact hHeld) (fun K hK => ?_)
        go_simp
        refine hK _ ?_
        clear hK K
        refine take_L (i := 18) rfl (by kernel_rfl) (by kernel_rfl) (by kernel_rfl) (by kernel_rfl) (fun _ _ _ _ h => h) (by exact hHeld) (fun K hK => ?_)
        go_simp
        refine hK _ ?_
        clear hK K
        have hset := HD5.out.g.op HB.out.1 HQ.out.2.1 HQ.out.2.2.1 x2 y2
        refine one_L (i := 19) (by kernel_rfl) rfl (fun K hK => ?_)
        go_simp
        refine hset.mono ?_
        clear hset
        rintro _ w6 ⟨rc2, G6, rfl, _, _, ho, hs, hg1⟩
        have HE : Hid (Ord J w W1 D1 T1 ln P bs p q (i + 1) (ln - (i + 1)) w6) := ⟨_, _, F6, G6, HD5.out.stepG ho hs hg1, ⟨opS_kinds HQ.out.1.1 x y, by rw [opS_len]; exact HQ.out.1.2.1, HQ.out.1.2.2⟩, opS_kinds HQ.out.2.1 x2 y2, by rw [opS_len]; exact HQ.out.2.2.1, HQ.out.2.2.2⟩
        replace hHeld := Hrd.out.2 w6 (HD5.out.stepG ho hs hg1).f.b
        refine hK.out _ _ (fun _ => hHeld) ?_
        clear hK K ho hs hg1 HD5 hHeld hne k1 k2 HQ Hrd HP HSr HB
        refine done_L (by kernel_rfl) ?_ _
        go_wp2
        exact ⟨⟨i + 1, by omega, rfl, HE⟩, by simp [intOf]; omega⟩
      have hx' : ¬ (i : Int) < (ln : Int) := by omega
      obtain ⟨es, F5, G5, hduo, hke, hle⟩ : ∃ es F G, Duo J w W1 D1 T1 es es p q F G wr ∧ Kinds es ∧ es.length = W1 * D1 * T1 := by
        obtain ⟨es, fs, F5, G5, hduo, he, hf⟩ := HI.out.x
        have e : es = fs := he.2.2.same hf.2.2 (fun t => by constructor <;> intro q <;> omega) he.2.1 hf.2.1
        subst e
        exact ⟨es, F5, G5, hduo, he.1, he.2.1⟩
      have HD : Hid (Duo J w W1 D1 T1 es es p q F5 G5 wr) := hduo
      have HK : Hid (Kinds es ∧ es.length = W1 * D1 * T1) := ⟨hke, hle⟩
      clear hduo hke hle HI HA
      go_upto_region 21 with fail
      refine region_L (Kp []) 99 (by kernel_rfl) ?_
      have hd : Below wr.heap.size wr wr.drew := (Below.refl _ wr).drew
      have HD0 : Hid (Duk J w W1 D1 T1 es es p q F5 G5 [] wr.drew) := (HD.out.on hd).duk
      clear HD hd
      generalize wr.drew = va at *
      have hHeld := HD0.out.k
      have hne : Nonempty (Sub (Kp [])) := ⟨⟨_, hHeld⟩⟩
      refine take_L (i := 0) rfl (by kernel_rfl) (by kernel_rfl) (by kernel_rfl) (by kernel_rfl) (fun _ _ _ _ h => h) (by exact hHeld) (fun K hK => ?_)
      go_simp
      refine hK _ ?_
      clear hK K
      refine take_L (i := 3) rfl (by kernel_rfl) (by kernel_rfl) (by kernel_rfl) (by kernel_rfl) (fun _ _ _ _ h => h) (by exact hHeld) (fun K hK => ?_)
      go_simp
      refine hK _ ?_
      clear hK K
      have hc := Duk.skyF HB.out.1 HB.out.2.1 HD0.out HK.out.1 HK.out.2
      refine one_L (i := 1) (by kernel_rfl) rfl (fun K hK => ?_)
      go_simp
      refine hc.mono ?_
      clear hc
      rintro _ u1 ⟨g1, c1, H1, r1, rfl, hl1, hd1⟩
      have HLsky : Hid (LightOf (L.skyS W1 D1 T1 (fun j => es.getD j 0) HB.out.1.w0 HB.out.1.d0) n r1) := hl1
      obtain ⟨Zsky, hZ⟩ : ∃ Z, strOfNums r1 = Z := ⟨_, rfl⟩
      have HZsky : Hid (strOfNums r1 = Zsky) := hZ
      clear hZ
      clear hl1
      have kt1 : ∀ s : Sub (Kp ((g1, r1) :: [])), (convert 22 9 (.slice (some ⟨g1, 0, none⟩) n c1)).run Tryd.prog s.w = .ok (.string Zsky) s.w := kp_text HLsky.out.len (lv_kinds HLsky.out) HZsky.out
      have HD1 : Hid (Duk J w W1 D1 T1 es es p q H1 G5 ((g1, r1) :: []) u1) := hd1
      replace hHeld : Kp ((g1, r1) :: []) u1 := HD1.out.k
      refine hK.out _ _ (fun _ => kp_more _ hHeld) ?_
      clear hK K hd1 HD0 hne
      refine wpAnyL_strong (S' := Kp ((g1, r1) :: [])) kp_more _ _ _ _ ?_
      have hne : Nonempty (Sub (Kp ((g1, r1) :: []))) := ⟨⟨_, hHeld⟩⟩
      refine take_L (i := 2) rfl (by kernel_rfl) (by kernel_rfl) (by kernel_rfl) (by kernel_rfl) (fun _ _ _ _ h => h) (by exact hHeld) (fun K hK => ?_)
      go_simp
      refine hK _ ?_
      clear hK K
      have hc := Duk.skyG HB.out.1 HB.out.2.1 HD1.out HK.out.1 HK.out.2
      refine one_L (i := 4) (by kernel_rfl) rfl (fun K hK => ?_)
      go_simp
      refine hc.mono ?_
      clear hc kt1
      rintro _ u2 ⟨g2, c2, H2, r2, rfl, hl2, hd2⟩
      have e2 : r2 = r1 := hl2.same HB.out.2.1.symm HLsky.out
      rw [e2] at hd2
      clear e2
      clear hl2
      have kt2 : ∀ s : Sub (Kp ((g2, r1) :: ((g1, r1) :: []))), (convert 22 9 (.slice (some ⟨g2, 0, none⟩) n c2)).run Tryd.prog s.w = .ok (.string Zsky) s.w := kp_text HLsky.out.len (lv_kinds HLsky.out) HZsky.out
      have HD2 : Hid (Duk J w W1 D1 T1 es es p q H1 H2 ((g2, r1) :: ((g1, r1) :: [])) u2) := hd2
      replace hHeld : Kp ((g2, r1) :: ((g1, r1) :: [])) u2 := HD2.out.k
      refine hK.out _ _ (fun _ => kp_more _ hHeld) ?_
      clear hK K hd2 HD1 hne
      refine wpAnyL_strong (S' := Kp ((g2, r1) :: ((g1, r1) :: []))) kp_more _ _ _ _ ?_
      have hne : Nonempty (Sub (Kp ((g2, r1) :: ((g1, r1) :: [])))) := ⟨⟨_, hHeld⟩⟩
      refine take_L (i := 5) rfl (by kernel_rfl) (by kernel_rfl) (by kernel_rfl) (by kernel_rfl) (fun _ _ _ _ h => h) (by exact hHeld) (fun K hK => ?_)
      go_simp
      refine hK _ ?_
      clear hK K
      refine take_L (i := 6) rfl (by kernel_rfl) (by kernel_rfl) (by kernel_rfl) (by kernel_rfl) (fun _ _ _ _ h => h) (by exact hHeld) (fun K hK => ?_)
      go_simp
      refine hK _ ?_
      clear hK K
      refine take_L (i := 7) rfl (by kernel_rfl) (by kernel_rfl) (by kernel_rfl) (by kernel_rfl) (fun _ _ _ _ h => h) (by exact hHeld) (fun K hK => ?_)
      go_simp
      refine hK _ ?_
      clear hK K
      refine take_L (i := 8) rfl (by kernel_rfl) (by kernel_rfl) (by kernel_rfl) (by kernel_rfl) (fun _ _ _ _ h => h) (by exact hHeld) (fun K hK => ?_)
      go_simp
      refine hK _ ?_
      clear hK K
      refine take_L (i := 11) rfl (by kernel_rfl) (by kernel_rfl) (by kernel_rfl) (by kernel_rfl) (fun _ _ _ _ h => h) (by exact hHeld) (fun K hK => ?_)
      go_simp
      refine hK _ ?_
      clear hK K
      have hc := Duk.lampF HB.out.1 HB.out.2.1 HD2.out HK.out.1 HK.out.2
      refine one_L (i := 9) (by kernel_rfl) rfl (fun K hK => ?_)
      go_simp
      refine hc.mono ?_
      clear hc kt2
      rintro _ u3 ⟨g3, c3, H3, r3, rfl, hl3, hd3⟩
      have HLlamp : Hid (LightOf (L.lampS W1 D1 T1 (fun j => es.getD j 0) HB.out.1.w0 HB.out.1.d0) n r3) := hl3
      obtain ⟨Zlamp, hZ⟩ : ∃ Z, strOfNums r3 = Z := ⟨_, rfl⟩
      have HZlamp : Hid (strOfNums r3 = Zlamp) := hZ
      clear hZ
      clear hl3
      have kt3 : ∀ s : Sub (Kp ((g3, r3) :: ((g2, r1) :: ((g1, r1) :: [])))), (convert 22 9 (.slice (some ⟨g3, 0, none⟩) n c3)).run Tryd.prog s.w = .ok (.string Zlamp) s.w := kp_text HLlamp.out.len (lv_kinds HLlamp.out) HZlamp.out
      have HD3 : Hid (Duk J w W1 D1 T1 es es p q H3 H2 ((g3, r3) :: ((g2, r1) :: ((g1, r1) :: []))) u3) := hd3
      replace hHeld : Kp ((g3, r3) :: ((g2, r1) :: ((g1, r1) :: []))) u3 := HD3.out.k
      refine hK.out _ _ (fun _ => kp_more _ hHeld) ?_
      clear hK K hd3 HD2 hne
      refine wpAnyL_strong (S' := Kp ((g3, r3) :: ((g2, r1) :: ((g1, r1) :: [])))) kp_more _ _ _ _ ?_
      have hne : Nonempty (Sub (Kp ((g3, r3) :: ((g2, r1) :: ((g1, r1) :: []))))) := ⟨⟨_, hHeld⟩⟩
      refine take_L (i := 10) rfl (by kernel_rfl) (by kernel_rfl) (by kernel_rfl) (by kernel_rfl) (fun _ _ _ _ h => h) (by exact hHeld) (fun K hK => ?_)
      go_simp
      refine hK _ ?_
      clear hK K
      have hc := Duk.lampG HB.out.1 HB.out.2.1 HD3.out HK.out.1 HK.out.2
      refine one_L (i := 12) (by kernel_rfl) rfl (fun K hK => ?_)
      go_simp
      refine hc.mono ?_
      clear hc kt3
      rintro _ u4 ⟨g4, c4, H4, r4, rfl, hl4, hd4⟩
      have e4 : r4 = r3 := hl4.same HB.out.2.1.symm HLlamp.out
      rw [e4] at hd4
      clear e4
      clear hl4
      have kt4 : ∀ s : Sub (Kp ((g4, r3) :: ((g3, r3) :: ((g2, r1) :: ((g1, r1) :: []))))), (convert 22 9 (.slice (some ⟨g4, 0, none⟩) n c4)).run Tryd.prog s.w = .ok (.string Zlamp) s.w := kp_text HLlamp.out.len (lv_kinds HLlamp.out) HZlamp.out
      have HD4 : Hid (Duk J w W1 D1 T1 es es p q H3 H4 ((g4, r3) :: ((g3, r3) :: ((g2, r1) :: ((g1, r1) :: [])))) u4) := hd4
      replace hHeld : Kp ((g4, r3) :: ((g3, r3) :: ((g2, r1) :: ((g1, r1) :: [])))) u4 := HD4.out.k
      refine hK.out _ _ (fun _ => kp_more _ hHeld) ?_
      clear hK K hd4 HD3 hne
      refine wpAnyL_strong (S' := Kp ((g4, r3) :: ((g3, r3) :: ((g2, r1) :: ((g1, r1) :: []))))) kp_more _ _ _ _ ?_
      have hne : Nonempty (Sub (Kp ((g4, r3) :: ((g3, r3) :: ((g2, r1) :: ((g1, r1) :: [])))))) := ⟨⟨_, hHeld⟩⟩
      refine take_L (i := 13) rfl (by kernel_rfl) (by kernel_rfl) (by kernel_rfl) (by kernel_rfl) (fun _ _ _ _ h => h) (by exact hHeld) (fun K hK => ?_)
      go_simp
      refine hK _ ?_
      clear hK K
      refine take_L (i := 14) rfl (by kernel_rfl) (by kernel_rfl) (by kernel_rfl) (by kernel_rfl) (fun _ _ _ _ h => h) (by exact hHeld) (fun K hK => ?_)
      go_simp
      refine hK _ ?_
      clear hK K
      refine take_L (i := 15) rfl (by kernel_rfl) (by kernel_rfl) (by kernel_rfl) (by kernel_rfl) (fun _ _ _ _ h => h) (by exact hHeld) (fun K hK => ?_)
      go_simp
      refine hK _ ?_
      clear hK K
      refine take_L (i := 16) rfl (by kernel_rfl) (by kernel_rfl) (by kernel_rfl) (by kernel_rfl) (fun _ _ _ _ h => h) (by exact hHeld) (fun K hK => ?_)
      go_simp
      refine hK _ ?_
      clear hK K
      refine take_L (i := 17) rfl (by kernel_rfl) (by kernel_rfl) (by kernel_rfl) (by kernel_rfl) (fun _ _ _ _ h => h) (by exact hHeld) (fun K hK => ?_)
      go_simp
      refine hK _ ?_
      clear hK K
      refine take_L (i := 20) rfl (by kernel_rfl) (by kernel_rfl) (by kernel_rfl) (by kernel_rfl) (fun _ _ _ _ h => h) (by exact hHeld) (fun K hK => ?_)
      go_simp
      refine hK _ ?_
      clear hK K
      have hc := Duk.kindsF HB.out.1 HB.out.2.1 HD4.out HK.out.1 HK.out.2
      refine one_L (i := 18) (by kernel_rfl) rfl (fun K hK => ?_)
      go_simp
      refine hc.mono ?_
      clear hc kt4
      rintro _ u5 ⟨g5, c5, H5, rfl, hd5⟩
      obtain ⟨Zes, hZ⟩ : ∃ Z, strOfNums es = Z := ⟨_, rfl⟩
      have HZes : Hid (strOfNums es = Zes) := hZ
      clear hZ
      have kt5 : ∀ s : Sub (Kp ((g5, es) :: ((g4, r3) :: ((g3, r3) :: ((g2, r1) :: ((g1, r1) :: [])))))), (convert 22 9 (.slice (some ⟨g5, 0, none⟩) n c5)).run Tryd.prog s.w = .ok (.string Zes) s.w := kp_text (HK.out.2.trans HB.out.2.1.symm) HK.out.1 HZes.out
      have HD5 : Hid (Duk J w W1 D1 T1 es es p q H5 H4 ((g5, es) :: ((g4, r3) :: ((g3, r3) :: ((g2, r1) :: ((g1, r1) :: []))))) u5) := hd5
      replace hHeld : Kp ((g5, es) :: ((g4, r3) :: ((g3, r3) :: ((g2, r1) :: ((g1, r1) :: []))))) u5 := HD5.out.k
      refine hK.out _ _ (fun _ => kp_more _ hHeld) ?_
      clear hK K hd5 HD4 hne
      refine wpAnyL_strong (S' := Kp ((g5, es) :: ((g4, r3) :: ((g3, r3) :: ((g2, r1) :: ((g1, r1) :: [])))))) kp_more _ _ _ _ ?_
      have hne : Nonempty (Sub (Kp ((g5, es) :: ((g4, r3) :: ((g3, r3) :: ((g2, r1) :: ((g1, r1) :: []))))))) := ⟨⟨_, hHeld⟩⟩
      refine take_L (i := 19) rfl (by kernel_rfl) (by kernel_rfl) (by kernel_rfl) (by kernel_rfl) (fun _ _ _ _ h => h) (by exact hHeld) (fun K hK => ?_)
      go_simp
      refine hK _ ?_
      clear hK K
      have hc := Duk.kindsG HB.out.1 HB.out.2.1 HD5.out HK.out.1 HK.out.2
      refine one_L (i := 21) (by kernel_rfl) rfl (fun K hK => ?_)
      go_simp
      refine hc.mono ?_
      clear hc kt5
      rintro _ u6 ⟨g6, c6, H6, rfl, hd6⟩
      have kt6 : ∀ s : Sub (Kp ((g6, es) :: ((g5, es) :: ((g4, r3) :: ((g3, r3) :: ((g2, r1) :: ((g1, r1) :: []))))))), (convert 22 9 (.slice (some ⟨g6, 0, none⟩) n c6)).run Tryd.prog s.w = .ok (.string Zes) s.w := kp_text (HK.out.2.trans HB.out.2.1.symm) HK.out.1 HZes.out
      have HD6 : Hid (Duk J w W1 D1 T1 es es p q H5 H6 ((g6, es) :: ((g5, es) :: ((g4, r3) :: ((g3, r3) :: ((g2, r1) :: ((g1, r1) :: [])))))) u6) := hd6
      replace hHeld : Kp ((g6, es) :: ((g5, es) :: ((g4, r3) :: ((g3, r3) :: ((g2, r1) :: ((g1, r1) :: [])))))) u6 := HD6.out.k
      refine hK.out _ _ (fun _ => kp_more _ hHeld) ?_
      clear hK K hd6 HD5 hne
      refine wpAnyL_strong (S' := Kp ((g6, es) :: ((g5, es) :: ((g4, r3) :: ((g3, r3) :: ((g2, r1) :: ((g1, r1) :: []))))))) kp_more _ _ _ _ ?_
      have hne : Nonempty (Sub (Kp ((g6, es) :: ((g5, es) :: ((g4, r3) :: ((g3, r3) :: ((g2, r1) :: ((g1, r1) :: [])))))))) := ⟨⟨_, hHeld⟩⟩
      refine take_L (i := 22) rfl (by kernel_rfl) (by kernel_rfl) (by kernel_rfl) (by kernel_rfl) (fun _ _ _ _ h => h) (by exact hHeld) (fun K hK => ?_)
      go_simp
      refine hK _ ?_
      clear hK K
      refine take_L (i := 23) rfl (by kernel_rfl) (by kernel_rfl) (by kernel_rfl) (by kernel_rfl) (fun _ _ _ _ h => h) (by exact hHeld) (fun K hK => ?_)
      go_simp
      refine hK _ ?_
      clear hK K
      refine take_L (i := 24) rfl (by kernel_rfl) (by kernel_rfl) (by kernel_rfl) (by kernel_rfl) (fun _ _ _ _ h => h) (by exact hHeld) (fun K hK => ?_)
      go_simp
      refine hK _ ?_
      clear hK K
      refine one_L (i := 25) (by kernel_rfl) rfl (fun K hK => ?_)
      go_simp
      refine hK.out _ _ (fun _ => hHeld) ?_
      clear hK K
      refine done_L (by kernel_rfl) ?_ _
      have R := HP.out u6 HD6.out.d.f.b
      clear HP HD6 HB HK HSr hne hHeld kt6 HLsky HLlamp HZsky HZlamp HZes
      go_wp2
      first | exact R | (go_ret; exact R)
end Go.Proofs.YtmfjmcaaoljjlaaDoor
