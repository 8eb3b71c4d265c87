/-
  RelightSets: behind any Sets the light is what the document says.
-/
import Derived.Test.YtmfjmcaaoljjlaaDoorWs
set_option maxRecDepth 20000
namespace Go.Proofs.YtmfjmcaaoljjlaaDoor
open C Go.RowKit L
attribute [local go_sem] Oper.semAt_some

/-- The two fields of the law. -/
structure Two (J : JSpec) (w0 : World) (W D T : Nat) (bs : List Int) (p g kb cap n : Nat) (F : Nat → Prop) (w : World) : Prop where
  j : Fj J w0 W D T bs p F w
  fd : Fd w g W D T (.slice (some ⟨kb, 0, none⟩) n cap)
  kp : Pre w kb 5 bs
  ng : ¬ F g
  nk : ¬ F kb
  zg : w0.heap.size ≤ g
  zk : w0.heap.size ≤ kb
  kk : Kinds bs
  kl : bs.length = W * D * T
theorem Two.step {J : JSpec} {w0 : World} {W D T : Nat} {bs : List Int} {p g kb cap n : Nat} {F F' : Nat → Prop} {w w' : World} (h : Two J w0 W D T bs p g kb cap n F w) (ha : J.A W D T bs p F' w') (ho : OnlyF F w w') (hs : ∀ j, F' j → F j ∨ w.heap.size ≤ j) : Two J w0 W D T bs p g kb cap n F' w' := by
  have h1 := (Array.getElem?_eq_some_iff.1 h.fd).1
  have h2 := h.kp.lt
  exact ⟨h.j.step ha ho hs, (ho.block g h1 h.ng).trans h.fd, h.kp.only ho h.nk, fun q => (hs g q).elim h.ng (fun r => by omega), fun q => (hs kb q).elim h.nk (fun r => by omega), h.zg, h.zk, h.kk, h.kl⟩
set_option maxRecDepth 1000000 in
set_option maxHeartbeats 16000000 in
theorem relightSets_walk (J : JSpec) (W D T : Int) (a la : Option Addr) (n c ln lc : Nat) (bs : List Int) (P : Nat → Nat → Int) (w : World) (hG : J.G w) (hn : n ≤ 9223372036854775807) (hln : ln ≤ 9223372036854775807) (hS : Src w a n bs) (hO : Ops w la ln P) :
    Calls Tryd.prog 4 #[.int .i64 W, .int .i64 D, .int .i64 T, .slice a n c, .slice la ln lc] w fun e w' => e = .returned (.bool true) ∧ Below w.heap.size w w' := by
  obtain ⟨Post, hPost⟩ : ∃ Post : Ending → World → Prop, Post = fun e w' => e = .returned (.bool true) ∧ Below w.heap.size w w' := ⟨_, rfl⟩
  rw [← hPost]
  have HP : Hid (∀ w', Below w.heap.size w w' → Post (.returned (.bool true)) w') := fun w' h => by rw [hPost]; exact ⟨rfl, h⟩
  clear hPost
  have HS : Hid (Src w a n bs ∧ Ops w la ln P) := ⟨hS, hO⟩
  have haw := awake_c J w hG
  have HG0 : Hid (J.G w) := hG
  clear hS hO hG
  go_enter Tryd.func4, Tryd.ntmps4
  go_wp2_with fail
  refine haw.mono ?_
  rintro _ w1 ⟨rfl, hG1, hb1⟩
  have H1 : Hid (J.G w1 ∧ Below w.heap.size w w1) := ⟨hG1, hb1⟩
  clear haw hG1 hb1
  by_cases hn2 : n ≤ 2000
  case neg =>
    have R := HP.out w1 H1.out.2
    clear HP HS H1
    go_wp2
    first | exact R | (go_ret; exact R)
  by_cases hl6 : ln ≤ 60
  case neg =>
    have R := HP.out w1 H1.out.2
    clear HP HS H1
    go_wp2
    first | exact R | (go_ret; exact R)
  have hnew := J.new W D T a n c bs w1 H1.out.1 (by omega) (HS.out.1.below H1.out.2)
  go_wp2_with fail
  refine hnew.mono ?_
  clear hnew
  intro e2 w2 hnw
  by_cases hok : OkDims W D T n ∧ Kinds bs
  case neg =>
    obtain ⟨cc, hcc, rfl, hb2⟩ := newas_no hnw hok
    have hb02 := H1.out.2.trans (hb2.mono H1.out.2.size)
    have hrn := rnew_c W D T a n c bs w2 (by omega) (HS.out.1.below hb02)
    have Hcc : Hid ((cc = 1 ∧ ¬ OkDims W D T n) ∨ (cc = 10 ∧ OkDims W D T n)) := hcc
    have hc0 : ¬ cc = 0 := by rcases hcc with ⟨q, _⟩ | ⟨q, _⟩ <;> omega
    clear hnw hcc
    go_wp2_with fail
    refine hrn.mono ?_
    clear hrn
    intro e3 w3 hrw
    obtain ⟨cd, hcd, rfl, hb3⟩ := newas_no hrw hok
    obtain rfl : cd = cc := by
      rcases hcd with ⟨q, r⟩ | ⟨q, r⟩ <;> rcases Hcc.out with ⟨q', r'⟩ | ⟨q', r'⟩
      · omega
      · exact absurd r' r
      · exact absurd r r'
      · omega
    have R := HP.out w3 (hb02.trans (hb3.mono hb02.size))
    clear hrw hcd hb3 hb2 hb02 HP HS H1 Hcc hok
    have hc1 : (cd != 0) = true := by simpa using hc0
    go_wp2
    first | exact R | (go_ret; exact R)
  obtain ⟨p, rfl, ⟨F, W1, D1, T1, rfl, rfl, rfl, hA, hF⟩, hb2⟩ := newas_ok hnw hok.1 hok.2
  have hb02 := H1.out.2.trans (hb2.mono H1.out.2.size)
  have hrn := rnew_c (W1 : Int) (D1 : Int) (T1 : Int) a n c bs w2 (by omega) (HS.out.1.below hb02)
  have HF : Hid (Fj J w W1 D1 T1 bs p F w2) := ⟨J.gon H1.out.1 hb2, hA, hb02, fun j hj => Nat.le_trans H1.out.2.size (hF j hj)⟩
  have Hok : Hid (OkDims (W1 : Int) (D1 : Int) (T1 : Int) n ∧ Kinds bs) := hok
  clear hnw hA hF hb2 hb02 hok H1
  go_wp2_with fail
  refine hrn.mono ?_
  clear hrn
  intro e3 w3 hrw
  obtain ⟨g, rfl, ⟨kb, cap, hfd, hkp, hzk, hzg⟩, hb3⟩ := newas_ok hrw Hok.out.1 Hok.out.2
  have HT : Hid (Two J w W1 D1 T1 bs p g kb cap n F w3) := by
    have h3 := HF.out.on hb3
    have hlt := J.lt HF.out.a
    have hsz := HF.out.b.size
    exact ⟨h3, hfd, hkp, fun q => by have := hlt g q; omega, fun q => by have := hlt kb q; omega, by omega, by omega, Hok.out.2, by rw [HS.out.1.len]; exact (dims_bx Hok.out.1).2⟩
  have HB : Hid (Bx W1 D1 T1 ∧ n = W1 * D1 * T1 ∧ OkDims (W1 : Int) (D1 : Int) (T1 : Int) n) := ⟨(dims_bx Hok.out.1).1, (dims_bx Hok.out.1).2, Hok.out.1⟩
  clear hrw hfd hkp hzk hzg hb3 HF Hok
  go_wp2_with fail
  go_loopw [16] (fun vx wr => ∃ i : Nat, i ≤ ln ∧ vx = .int .i64 (i : Int) ∧ Hid (∃ bs' F', Two J w W1 D1 T1 bs' p g kb cap n F' wr)) (fun vx _ => ln - (intOf vx).toNat)
  case atStart => exact ⟨0, by omega, rfl, _, _, HT.out⟩
  case round =>
    clear HT
    obtain ⟨i, hi, rfl, HJ⟩ := hrel
    by_cases hx : i < ln
    case neg =>
      have hx' : ¬ (i : Int) < (ln : Int) := by omega
      have R := HP.out wr (by
        obtain ⟨bs', F', h⟩ := HJ.out
        exact h.j.b)
      clear HJ HP HS HB
      go_wp2
      first | exact R | (go_ret; exact R)
    have hx' : (i : Int) < (ln : Int) := by omega
    obtain ⟨bs', F', hTw⟩ := HJ.out
    obtain ⟨lb, lo, rfl, hlb, hrd⟩ := HS.out.2.reads hx
    obtain ⟨x, hxx⟩ : ∃ x, P i 0 = x := ⟨_, rfl⟩
    obtain ⟨y, hyy⟩ : ∃ y, P i 1 = y := ⟨_, rfl⟩
    rw [hxx, hyy] at hrd
    have Hrd : Hid (∀ w', Below w.heap.size w w' → ReadsP lb (lo + i * 2) x y w') := hrd
    have H2 : Hid (Two J w W1 D1 T1 bs' p g kb cap n F' wr) := hTw
    clear hTw HJ hrd hxx hyy
    go_wp2_with fail
    refine region_L (ReadsP lb (lo + i * 2) x y) 12 (by kernel_rfl) ?_
    have hd : Below wr.heap.size wr wr.drew := (Below.refl _ wr).drew
    have H3 : Hid (Two J w W1 D1 T1 bs' p g kb cap n F' wr.drew) := by
      have h := H2.out
      exact ⟨h.j.on hd, h.fd.on hd, h.kp.below hd h.kp.lt, h.ng, h.nk, h.zg, h.zk, h.kk, h.kl⟩
    clear H2 hd
    generalize wr.drew = va at *
    have hHeld := Hrd.out va H3.out.j.b
    have hne : Nonempty (Sub (ReadsP lb (lo + i * 2) x y)) := ⟨⟨_, hHeld⟩⟩
    have k1 : ∀ s : Sub (ReadsP lb (lo + i * 2) x y), s.w.cell? ⟨lb, lo + i * 2, none⟩ = some (.int .i64 x) := fun s => s.ok.x
    have k2 : ∀ s : Sub (ReadsP lb (lo + i * 2) x y), s.w.cell? ⟨lb, lo + i * 2 + 1, none⟩ = some (.int .i64 y) := fun s => s.ok.y
    refine take_L (i := 0) rfl (by kernel_rfl) (by kernel_rfl) (by kernel_rfl) (by kernel_rfl) (fun _ _ _ _ h => h) (by exact hHeld) (fun K hK => ?_)
    go_simp
    refine hK _ ?_
    clear hK K
    refine take_L (i := 1) rfl (by kernel_rfl) (by kernel_rfl) (by kernel_rfl) (by kernel_rfl) (fun _ _ _ _ h => h) (by exact hHeld) (fun K hK => ?_)
    go_simp
    refine hK _ ?_
    clear hK K
    refine take_L (i := 2) rfl (by kernel_rfl) (by kernel_rfl) (by kernel_rfl) (by kernel_rfl) (fun _ _ _ _ h => h) (by exact hHeld) (fun K hK => ?_)
    go_simp
    refine hK _ ?_
    clear hK K
    refine take_L (i := 3) rfl (by kernel_rfl) (by kernel_rfl) (by kernel_rfl) (by kernel_rfl) (fun _ _ _ _ h => h) (by exact hHeld) (fun K hK => ?_)
    go_simp
    refine hK _ ?_
    clear hK K
    refine take_L (i := 4) rfl (by kernel_rfl) (by kernel_rfl) (by kernel_rfl) (by kernel_rfl) (fun _ _ _ _ h => h) (by exact hHeld) (fun K hK => ?_)
    go_simp
    refine hK _ ?_
    clear hK K
    refine take_L (i := 5) rfl (by kernel_rfl) (by kernel_rfl) (by kernel_rfl) (by kernel_rfl) (fun _ _ _ _ h => h) (by exact hHeld) (fun K hK => ?_)
    go_simp
    refine hK _ ?_
    clear hK K
    refine take_L (i := 6) rfl (by kernel_rfl) (by kernel_rfl) (by kernel_rfl) (by kernel_rfl) (fun _ _ _ _ h => h) (by exact hHeld) (fun K hK => ?_)
    go_simp
    refine hK _ ?_
    clear hK K
    refine take_L (i := 7) rfl (by kernel_rfl) (by kernel_rfl) (by kernel_rfl) (by kernel_rfl) (fun _ _ _ _ h => h) (by exact hHeld) (fun K hK => ?_)
    go_simp
    refine hK _ ?_
    clear hK K
    refine take_L (i := 8) rfl (by kernel_rfl) (by kernel_rfl) (by kernel_rfl) (by kernel_rfl) (fun _ _ _ _ h => h) (by exact hHeld) (fun K hK => ?_)
    go_simp
    refine hK _ ?_
    clear hK K
    refine take_L (i := 9) rfl (by kernel_rfl) (by kernel_rfl) (by kernel_rfl) (by kernel_rfl) (fun _ _ _ _ h => h) (by exact hHeld) (fun K hK => ?_)
    go_simp
    refine hK _ ?_
    clear hK K
    refine take_L (i := 10) rfl (by kernel_rfl) (by kernel_rfl) (by kernel_rfl) (by kernel_rfl) (fun _ _ _ _ h => h) (by exact hHeld) (fun K hK => ?_)
    go_simp
    refine hK _ ?_
    clear hK K
    have hset := J.set W1 D1 T1 bs' p F' x y va HB.out.1 H3.out.j.g H3.out.j.a H3.out.kk H3.out.kl
    refine one_L (i := 11) (by kernel_rfl) rfl (fun K hK => ?_)
    go_simp
    refine hset.mono ?_
    clear hset
    intro e4 w4 hs4
    -- what the Set answers, and the field behind it
    obtain ⟨rc, bs1, F1, he4, hrc, hA1, ho1, hs1⟩ : ∃ (rc : Int) (bs1 : List Int) (F1 : Nat → Prop), e4 = .returned (.int .i64 rc) ∧ ((¬ (0 ≤ x ∧ x < ((W1 * D1 * T1 : Nat) : Int)) ∧ rc = 1 ∧ bs1 = bs') ∨ ((0 ≤ x ∧ x < ((W1 * D1 * T1 : Nat) : Int)) ∧ ¬ (0 ≤ y ∧ y ≤ 16) ∧ rc = 10 ∧ bs1 = bs') ∨ (∃ I : Nat, x = (I : Int) ∧ I < W1 * D1 * T1 ∧ (0 ≤ y ∧ y ≤ 16) ∧ rc = 0 ∧ bs1 = bs'.set I y)) ∧ J.A W1 D1 T1 bs1 p F1 w4 ∧ OnlyF F' va w4 ∧ ∀ j, F1 j → F' j ∨ va.heap.size ≤ j := by
      rcases hs4 with ⟨h1, h2, F1, h3, h4, h5⟩ | ⟨h1, h2, h3, F1, h4, h5, h6⟩ | ⟨I, h1, h2, h3, h4, F1, h5, h6, h7⟩
      · exact ⟨1, bs', F1, h2, .inl ⟨h1, rfl, rfl⟩, h3, h4, h5⟩
      · exact ⟨10, bs', F1, h3, .inr (.inl ⟨h1, h2, rfl, rfl⟩), h4, h5, h6⟩
      · exact ⟨0, bs'.set I y, F1, h4, .inr (.inr ⟨I, h1, h2, h3, rfl, rfl⟩), h5, h6, h7⟩
    subst he4
    have Hrc : Hid ((¬ (0 ≤ x ∧ x < ((W1 * D1 * T1 : Nat) : Int)) ∧ rc = 1 ∧ bs1 = bs') ∨ ((0 ≤ x ∧ x < ((W1 * D1 * T1 : Nat) : Int)) ∧ ¬ (0 ≤ y ∧ y ≤ 16) ∧ rc = 10 ∧ bs1 = bs') ∨ (∃ I : Nat, x = (I : Int) ∧ I < W1 * D1 * T1 ∧ (0 ≤ y ∧ y ≤ 16) ∧ rc = 0 ∧ bs1 = bs'.set I y)) := hrc
    have H4 : Hid (Fj J w W1 D1 T1 bs1 p F1 w4 ∧ Fd w4 g W1 D1 T1 (.slice (some ⟨kb, 0, none⟩) n cap) ∧ Pre w4 kb 5 bs' ∧ ¬ F1 g ∧ ¬ F1 kb ∧ w.heap.size ≤ g ∧ w.heap.size ≤ kb ∧ Kinds bs' ∧ bs'.length = W1 * D1 * T1) := by
      have h := H3.out
      have q1 := (Array.getElem?_eq_some_iff.1 h.fd).1
      have q2 := h.kp.lt
      exact ⟨h.j.step hA1 ho1 hs1, (ho1.block g q1 h.ng).trans h.fd, h.kp.only ho1 h.nk, fun q => (hs1 g q).elim h.ng (fun r => by omega), fun q => (hs1 kb q).elim h.nk (fun r => by omega), h.zg, h.zk, h.kk, h.kl⟩
    have hHeld4 := Hrd.out w4 H4.out.1.b
    refine hK.out _ _ (fun _ => hHeld4) ?_
    clear hK K hs4 hrc hA1 ho1 hs1 H3 hHeld hne k1 k2
    refine one_L (i := 12) (by kernel_rfl) rfl (fun K hK => ?_)
    go_simp
    refine hK.out _ _ (fun h => absurd rfl h) ?_
    clear hK K hHeld4
    refine done_L (by kernel_rfl) ?_ _
    go_wp2_with fail
    refine region_L (ReadsP lb (lo + i * 2) x y) 12 (by kernel_rfl) ?_
    have hd : Below w4.heap.size w4 w4.drew := (Below.refl _ w4).drew
    have H5 : Hid (Fj J w W1 D1 T1 bs1 p F1 w4.drew ∧ Fd w4.drew g W1 D1 T1 (.slice (some ⟨kb, 0, none⟩) n cap) ∧ Pre w4.drew kb 5 bs' ∧ ¬ F1 g ∧ ¬ F1 kb ∧ w.heap.size ≤ g ∧ w.heap.size ≤ kb ∧ Kinds bs' ∧ bs'.length = W1 * D1 * T1) := by
      obtain ⟨h1, h2, h3, h4⟩ := H4.out
      exact ⟨h1.on hd, h2.on hd, h3.below hd h3.lt, h4⟩
    clear H4 hd
    generalize w4.drew = vb at *
    have hHeld := Hrd.out vb H5.out.1.b
    have hne : Nonempty (Sub (ReadsP lb (lo + i * 2) x y)) := ⟨⟨_, hHeld⟩⟩
    have k1 : ∀ s : Sub (ReadsP lb (lo + i * 2) x y), s.w.cell? ⟨lb, lo + i * 2, none⟩ = some (.int .i64 x) := fun s => s.ok.x
    have k2 : ∀ s : Sub (ReadsP lb (lo + i * 2) x y), s.w.cell? ⟨lb, lo + i * 2 + 1, none⟩ = some (.int .i64 y) := fun s => s.ok.y
    refine take_L (i := 0) rfl (by kernel_rfl) (by kernel_rfl) (by kernel_rfl) (by kernel_rfl) (fun _ _ _ _ h => h) (by exact hHeld) (fun K hK => ?_)
    go_simp
    refine hK _ ?_
    clear hK K
    refine take_L (i := 1) rfl (by kernel_rfl) (by kernel_rfl) (by kernel_rfl) (by kernel_rfl) (fun _ _ _ _ h => h) (by exact hHeld) (fun K hK => ?_)
    go_simp
    refine hK _ ?_
    clear hK K
    refine take_L (i := 2) rfl (by kernel_rfl) (by kernel_rfl) (by kernel_rfl) (by kernel_rfl) (fun _ _ _ _ h => h) (by exact hHeld) (fun K hK => ?_)
    go_simp
    refine hK _ ?_
    clear hK K
    refine take_L (i := 3) rfl (by kernel_rfl) (by kernel_rfl) (by kernel_rfl) (by kernel_rfl) (fun _ _ _ _ h => h) (by exact hHeld) (fun K hK => ?_)
    go_simp
    refine hK _ ?_
    clear hK K
    refine take_L (i := 4) rfl (by kernel_rfl) (by kernel_rfl) (by kernel_rfl) (by kernel_rfl) (fun _ _ _ _ h => h) (by exact hHeld) (fun K hK => ?_)
    go_simp
    refine hK _ ?_
    clear hK K
    refine take_L (i := 5) rfl (by kernel_rfl) (by kernel_rfl) (by kernel_rfl) (by kernel_rfl) (fun _ _ _ _ h => h) (by exact hHeld) (fun K hK => ?_)
    go_simp
    refine hK _ ?_
    clear hK K
    refine take_L (i := 6) rfl (by kernel_rfl) (by kernel_rfl) (by kernel_rfl) (by kernel_rfl) (fun _ _ _ _ h => h) (by exact hHeld) (fun K hK => ?_)
    go_simp
    refine hK _ ?_
    clear hK K
    refine take_L (i := 7) rfl (by kernel_rfl) (by kernel_rfl) (by kernel_rfl) (by kernel_rfl) (fun _ _ _ _ h => h) (by exact hHeld) (fun K hK => ?_)
    go_simp
    refine hK _ ?_
    clear hK K
    refine take_L (i := 8) rfl (by kernel_rfl) (by kernel_rfl) (by kernel_rfl) (by kernel_rfl) (fun _ _ _ _ h => h) (by exact hHeld) (fun K hK => ?_)
    go_simp
    refine hK _ ?_
    clear hK K
    refine take_L (i := 9) rfl (by kernel_rfl) (by kernel_rfl) (by kernel_rfl) (by kernel_rfl) (fun _ _ _ _ h => h) (by exact hHeld) (fun K hK => ?_)
    go_simp
    refine hK _ ?_
    clear hK K
    refine take_L (i := 10) rfl (by kernel_rfl) (by kernel_rfl) (by kernel_rfl) (by kernel_rfl) (fun _ _ _ _ h => h) (by exact hHeld) (fun K hK => ?_)
    go_simp
    refine hK _ ?_
    clear hK K
    have hrs := rset_c g kb n cap (W1 : Int) (D1 : Int) (T1 : Int) x y bs' vb H5.out.2.1 H5.out.2.2.1 (by rw [HB.out.2.1]; exact H5.out.2.2.2.2.2.2.2.2)
    refine one_L (i := 11) (by kernel_rfl) rfl (fun K hK => ?_)
    go_simp
    refine hrs.mono ?_
    clear hrs
    intro e5 w5 hs5
    obtain ⟨he5, h6⟩ : e5 = .returned (.int .i64 rc) ∧ Two J w W1 D1 T1 bs1 p g kb cap n F1 w5 := by
      obtain ⟨h1, h2, h3, h4, h5, h6, h7, h8, h9⟩ := H5.out
      have hnn := HB.out.2.1
      rcases hs5 with ⟨q1, q2, q3⟩ | ⟨q1, q2, q3, q4⟩ | ⟨I, q1, q2, q3, q4, q5⟩
      · rcases Hrc.out with ⟨r1, r2, r3⟩ | ⟨r1, r2, r3, r4⟩ | ⟨I', r1, r2, r3, r4, r5⟩
        · subst q3 r3; exact ⟨by rw [q2, r2], ⟨h1, h2, h3, h4, h5, h6, h7, h8, h9⟩⟩
        · exact absurd r1 (by rw [← hnn]; exact q1)
        · exact absurd ⟨by omega, by rw [hnn]; omega⟩ q1
      · rcases Hrc.out with ⟨r1, r2, r3⟩ | ⟨r1, r2, r3, r4⟩ | ⟨I', r1, r2, r3, r4, r5⟩
        · exact absurd q1 (by rw [hnn]; exact r1)
        · subst q4 r4; exact ⟨by rw [q3, r3], ⟨h1, h2, h3, h4, h5, h6, h7, h8, h9⟩⟩
        · exact absurd r3 q2
      · rcases Hrc.out with ⟨r1, r2, r3⟩ | ⟨r1, r2, r3, r4⟩ | ⟨I', r1, r2, r3, r4, r5⟩
        · exact absurd ⟨by omega, by omega⟩ r1
        · exact absurd q3 r2
        · obtain rfl : I = I' := by omega
          have hkg : kb ≠ g := fun q => by
            obtain ⟨cu, hcu, _⟩ := h3
            have h2' : vb.heap[g]? = _ := h2
            rw [q, h2'] at hcu
            cases hcu
          subst q5 r5
          have hG5 : J.G (vb.setCell ⟨kb, I, none⟩ (.int .u8 y)) := J.gon HG0.out (h1.b.setCell (p := ⟨kb, I, none⟩) h7 _)
          refine ⟨by rw [q4, r4], ⟨h1.set h5 h7 hG5, (Below.heap_setCell vb ⟨kb, I, none⟩ _ g (Ne.symm hkg)).trans h2, h3.set I y, h4, h5, h6, h7, ?_, by rw [List.length_set]; exact h9⟩⟩
          intro z hz
          rcases List.mem_or_eq_of_mem_set hz with r | r
          · exact h8 z r
          · rw [r]; exact q3
    subst he5
    have H6 : Hid (Two J w W1 D1 T1 bs1 p g kb cap n F1 w5) := h6
    have hHeld5 := Hrd.out w5 H6.out.j.b
    refine hK.out _ _ (fun _ => hHeld5) ?_
    clear hK K hs5 h6 H5 Hrc hHeld hne k1 k2
    refine one_L (i := 12) (by kernel_rfl) rfl (fun K hK => ?_)
    go_simp
    refine hK.out _ _ (fun h => absurd rfl h) ?_
    clear hK K hHeld5
    refine done_L (by kernel_rfl) ?_ _
    have c3 := H6.out.fd.c3
    have hn0 : bs1.length = n := by rw [HB.out.2.1]; exact H6.out.kl
    have hsrc : Src w5 (some ⟨kb, 0, none⟩) n bs1 := by have := H6.out.kp.src H6.out.kk; rwa [hn0] at this
    have htl := tells_c J W1 D1 T1 bs1 p F1 (some ⟨kb, 0, none⟩) n cap w5 HB.out.2.2 HB.out.1 H6.out.j.g H6.out.j.a H6.out.kk hsrc (fun b o e => by cases e; exact H6.out.nk)
    clear hsrc hn0
    go_wp2_with fail
    refine htl.mono ?_
    clear htl
    rintro _ w6 ⟨rfl, F6, hA6, ho6, hs6⟩
    have HE : Hid (∃ bs' F', Two J w W1 D1 T1 bs' p g kb cap n F' w6) := ⟨bs1, F6, H6.out.step hA6 ho6 hs6⟩
    clear hA6 ho6 hs6 H6 Hrd HP HS HB c3
    go_wp2
    exact ⟨⟨i + 1, by omega, rfl, HE⟩, by simp [intOf]; omega⟩
end Go.Proofs.YtmfjmcaaoljjlaaDoor
