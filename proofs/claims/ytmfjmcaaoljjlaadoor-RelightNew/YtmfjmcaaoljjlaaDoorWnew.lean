/-
  RelightNew: a field of any cells has the light that the document says, or is refused; its cells are its own.
-/
import Derived.Test.YtmfjmcaaoljjlaaDoorWsets
import Derived.Test.YtmfjmcaaoljjlaaDoorWt
set_option maxRecDepth 20000
namespace Go.Proofs.YtmfjmcaaoljjlaaDoor
open C Go.RowKit L
attribute [local go_sem] Oper.semAt_some

theorem wpList_append_zero {w : World} {ops : Array Oper} {rest : List Oper} {o : Oper} {a : Act} {Q : Exit → Act → World → Prop} (hgd : o.guard = none) (s x : Operand)
    (ho : o.op = .call { callee := .builtin .append, args := #[s, x], argTypes := #[22, 22] }) (ad : Option Addr) (c : Nat) (hs : a.eval s = .slice none 0 0) (hx : a.eval x = .slice ad 0 c)
    (h : wpList Tryd.prog ops Q rest (a.put o.dst (.slice none 0 0)) w) : wpList Tryd.prog ops Q (o :: rest) a w := by
  obtain ⟨i, hi, _, _, _⟩ := info_parts C.info5
  refine wpList_plain hgd fun K hK => ?_
  have hrun : (Builtin.append_ #[22, 22] o.type #[.slice none 0 0, .slice ad 0 c]).run Tryd.prog w = .ok (.slice none 0 0) w := by
    cases ad <;> simp [Builtin.append_, run_underlying Tryd.underlying22, sizeOf, typeInfo, hi, Builtin.lenOf, Builtin.firstCells, loadCells, loadCellsFrom]
  unfold Oper.wp execOp
  simp only [ho, resolve, invoke, builtin, Sem.run_bind, Sem.run_pure, Result.andThen_ok, List.map_toArray, List.map_cons, List.map_nil, hs, hx, hrun]
  exact hK _ _ h
theorem okdims_pos {W D T : Int} {n : Nat} (h : OkDims W D T n) : 0 < n := by
  obtain ⟨h1, h2⟩ := h
  have := Int.mul_pos (Int.mul_pos (show 0 < W by omega) (show 0 < D by omega)) (show 0 < T by omega)
  omega
/-- The law's two fields, and a row of its own that it writes on. -/
structure Own (J : JSpec) (w0 : World) (W D T : Nat) (bs : List Int) (p g kb cap n : Nat) (F : Nat → Prop) (ob : Nat) (w : World) : Prop where
  t : Two J w0 W D T bs p g kb cap n F w
  o : ∃ l, Pre w ob 5 l ∧ l.length = n
  no : ¬ F ob
  og : ob ≠ g
  ok : ob ≠ kb
  zo : w0.heap.size ≤ ob
theorem Own.cell {J : JSpec} {w0 : World} {W D T : Nat} {bs : List Int} {p g kb cap n : Nat} {F : Nat → Prop} {ob : Nat} {w : World} (h : Own J w0 W D T bs p g kb cap n F ob w) {i : Nat} (hi : i < n) : ∃ x, w.cell? ⟨ob, i, none⟩ = some (.int .u8 x) ∧ w.frozen? ⟨ob, i, none⟩ = false := by
  obtain ⟨l, hl, hn⟩ := h.o
  exact ⟨_, hl.cell (by omega), hl.free i⟩
theorem Own.set {J : JSpec} {w0 : World} {W D T : Nat} {bs : List Int} {p g kb cap n : Nat} {F : Nat → Prop} {ob : Nat} {w : World} (hG : J.G w0) (h : Own J w0 W D T bs p g kb cap n F ob w) (i : Nat) (x : Int) : Own J w0 W D T bs p g kb cap n F ob (w.setCell ⟨ob, i, none⟩ (.int .u8 x)) := by
  have hG1 : J.G (w.setCell ⟨ob, i, none⟩ (.int .u8 x)) := J.gon hG (h.t.j.b.setCell (p := ⟨ob, i, none⟩) h.zo _)
  obtain ⟨l, hl, hn⟩ := h.o
  exact ⟨⟨h.t.j.set h.no h.zo hG1, (Below.heap_setCell w ⟨ob, i, none⟩ _ g (Ne.symm h.og)).trans h.t.fd, h.t.kp.other (Ne.symm h.ok), h.t.ng, h.t.nk, h.t.zg, h.t.zk, h.t.kk, h.t.kl⟩, ⟨l.set i x, hl.set i x, by rw [List.length_set]; exact hn⟩, h.no, h.og, h.ok, h.zo⟩
theorem Fj.skyT {J : JSpec} {w0 : World} {W D T : Nat} {bs : List Int} {p : Nat} {F : Nat → Prop} {w : World} (h : Fj J w0 W D T bs p F w) (hb : Bx W D T) (hk : Kinds bs) (hl : bs.length = W * D * T) {n : Nat} (hn : n = W * D * T) : Calls Tryd.prog 12 #[.pointer (some ⟨p, 0, none⟩)] w fun e w' => ∃ g c F' l, e = .returned (.slice (some ⟨g, 0, none⟩) n c) ∧ Pre w' g 5 l ∧ l.length = n ∧ w.heap.size ≤ g ∧ ¬ F' g ∧ J.A W D T bs p F' w' ∧ OnlyF F w w' ∧ ∀ j, F' j → F j ∨ w.heap.size ≤ j :=
  (J.sky W D T bs p F w hb h.g h.a hk hl).mono (by
    subst hn
    rintro e w' ⟨g, c, F', l, he, hp, hl', r⟩
    exact ⟨g, c, F', l, he, hp, hl'.len, r⟩)
set_option maxRecDepth 1000000 in
set_option maxHeartbeats 16000000 in
theorem relightNew_walk (J : JSpec) (W D T : Int) (a : Option Addr) (n c : Nat) (bs : List Int) (w : World) (hG : J.G w) (hn : n ≤ 9223372036854775807) (hS : Src w a n bs) :
    Calls Tryd.prog 3 #[.int .i64 W, .int .i64 D, .int .i64 T, .slice a n c] w fun e w' => e = .returned (.bool true) ∧ Below w.heap.size w w' := by
  obtain ⟨Post, hPost⟩ : ∃ Post : Ending → World → Prop, Post = fun e w' => e = .returned (.bool true) ∧ Below w.heap.size w w' := ⟨_, rfl⟩
  rw [← hPost]
  have HP : Hid (∀ w', Below w.heap.size w w' → Post (.returned (.bool true)) w') := fun w' h => by rw [hPost]; exact ⟨rfl, h⟩
  clear hPost
  have HS : Hid (Src w a n bs) := hS
  have haw := awake_c J w hG
  have HG0 : Hid (J.G w) := hG
  clear hS hG
  go_enter Tryd.func3, Tryd.ntmps3
  go_wp2_with fail
  refine haw.mono ?_
  rintro _ w1 ⟨rfl, hG1, hb1⟩
  have H1 : Hid (J.G w1 ∧ Below w.heap.size w w1) := ⟨hG1, hb1⟩
  clear haw hG1 hb1
  by_cases hn2 : n ≤ 3000
  case neg =>
    have R := HP.out w1 H1.out.2
    clear HP HS H1
    go_wp2
    first | exact R | (go_ret; exact R)
  by_cases h0 : n = 0
  case pos =>
    subst h0
    have hnew := J.new W D T none 0 0 bs w1 H1.out.1 (by omega) ⟨HS.out.len, fun k hk => absurd hk (Nat.not_lt_zero _), HS.out.byte⟩
    go_upto_region 4 with fail
    go_wp2_with (at_builtin; refine wpList_append_zero rfl _ _ rfl a c rfl rfl ?_)
    refine hnew.mono ?_
    clear hnew
    intro e2 w2 hnw
    have hok : ¬ (OkDims W D T 0 ∧ Kinds bs) := fun q => absurd (okdims_pos q.1) (Nat.lt_irrefl 0)
    obtain ⟨cc, hcc, rfl, hb2⟩ := newas_no hnw hok
    obtain rfl : cc = 1 := hcc.elim (fun q => q.1) (fun q => absurd (okdims_pos q.2) (Nat.lt_irrefl 0))
    have hb02 := H1.out.2.trans (hb2.mono H1.out.2.size)
    have hrn := rnew_c W D T a 0 c bs w2 (by omega) (HS.out.below hb02)
    clear hnw hcc
    go_wp2_with fail
    refine hrn.mono ?_
    clear hrn
    intro e3 w3 hrw
    obtain ⟨cd, hcd, rfl, hb3⟩ := newas_no hrw hok
    obtain rfl : cd = 1 := hcd.elim (fun q => q.1) (fun q => absurd (okdims_pos q.2) (Nat.lt_irrefl 0))
    have R := HP.out w3 (hb02.trans (hb3.mono hb02.size))
    clear hrw hcd hb3 hb2 hb02 HP HS H1 hok HG0
    go_wp2
    first | exact R | (go_ret; exact R)
  go_upto_region 4 with fail
  go_wp2_with (at_builtin; refine wpList_append_src rfl _ _ rfl a n c bs (by omega) (by omega) (HS.out.below H1.out.2) rfl rfl ?_; intro ob oc wo hpo hbo hzo; have HO : Hid (Pre wo ob 5 bs ∧ Below w1.heap.size w1 wo ∧ w1.heap.size ≤ ob) := ⟨hpo, hbo, hzo⟩; clear hpo hbo hzo)
  have hb01 : Below w.heap.size w wo := H1.out.2.trans (HO.out.2.1.mono H1.out.2.size)
  have hln : bs.length = n := HS.out.len
  have hsrc : Src wo (some ⟨ob, 0, none⟩) n bs := ⟨hln, fun k hk => ⟨ob, 0, rfl, HO.out.1.lt, by rw [Nat.zero_add]; exact HO.out.1.cell (by omega)⟩, HS.out.byte⟩
  have hnew := J.new W D T (some ⟨ob, 0, none⟩) n oc bs wo (J.gon H1.out.1 HO.out.2.1) (by omega) hsrc
  have HO1 : Hid (Pre wo ob 5 bs ∧ Below w.heap.size w wo ∧ w.heap.size ≤ ob ∧ J.G wo) := ⟨HO.out.1, hb01, Nat.le_trans H1.out.2.size HO.out.2.2, J.gon H1.out.1 HO.out.2.1⟩
  clear hb01 hln hsrc HO H1
  refine hnew.mono ?_
  clear hnew
  intro e2 w2 hnw
  by_cases hok : OkDims W D T n ∧ Kinds bs
  case neg =>
    obtain ⟨cc, hcc, rfl, hb2⟩ := newas_no hnw hok
    have hb02 := HO1.out.2.1.trans (hb2.mono HO1.out.2.1.size)
    have hrn := rnew_c W D T a n c bs w2 (by omega) (HS.out.below hb02)
    have Hcc : Hid ((cc = 1 ∧ ¬ OkDims W D T n) ∨ (cc = 10 ∧ OkDims W D T n)) := hcc
    have hc0 : ¬ cc = 0 := by rcases hcc with ⟨q, _⟩ | ⟨q, _⟩ <;> omega
    clear hnw hcc
    go_wp2_with fail
    refine hrn.mono ?_
    clear hrn
    intro e3 w3 hrw
    obtain ⟨cd, hcd, rfl, hb3⟩ := newas_no hrw hok
    obtain rfl : cd = cc := by
      rcases hcd with ⟨q, r⟩ | ⟨q, r⟩ <;> rcases Hcc.out with ⟨q', r'⟩ | ⟨q', r'⟩
      · omega
      · exact absurd r' r
      · exact absurd r r'
      · omega
    have R := HP.out w3 (hb02.trans (hb3.mono hb02.size))
    clear hrw hcd hb3 hb2 hb02 HP HS HO1 Hcc hok HG0
    have hc1 : (cd != 0) = true := by simpa using hc0
    go_wp2
    first | exact R | (go_ret; exact R)
  obtain ⟨p, rfl, ⟨F, W1, D1, T1, rfl, rfl, rfl, hA, hF⟩, hb2⟩ := newas_ok hnw hok.1 hok.2
  have hb02 := HO1.out.2.1.trans (hb2.mono HO1.out.2.1.size)
  have hrn := rnew_c (W1 : Int) (D1 : Int) (T1 : Int) a n c bs w2 (by omega) (HS.out.below hb02)
  have HF : Hid (Fj J w W1 D1 T1 bs p F w2 ∧ Pre w2 ob 5 bs ∧ ¬ F ob ∧ ob < w2.heap.size) := ⟨⟨J.gon HO1.out.2.2.2 hb2, hA, hb02, fun j hj => Nat.le_trans HO1.out.2.1.size (hF j hj)⟩, HO1.out.1.below hb2 HO1.out.1.lt, fun q => by have := hF ob q; have := HO1.out.1.lt; omega, Nat.lt_of_lt_of_le HO1.out.1.lt hb2.size⟩
  have Hok : Hid (OkDims (W1 : Int) (D1 : Int) (T1 : Int) n ∧ Kinds bs) := hok
  clear hnw hA hF hb2 hb02 hok
  go_wp2_with fail
  refine hrn.mono ?_
  clear hrn
  intro e3 w3 hrw
  obtain ⟨g, rfl, ⟨kb, cap, hfd, hkp, hzk, hzg⟩, hb3⟩ := newas_ok hrw Hok.out.1 Hok.out.2
  have HT : Hid (Own J w W1 D1 T1 bs p g kb cap n F ob w3) := by
    obtain ⟨hf, hpo, hno, hlo⟩ := HF.out
    have h3 := hf.on hb3
    have hlt := J.lt hf.a
    have hsz := hf.b.size
    exact ⟨⟨h3, hfd, hkp, fun q => by have := hlt g q; omega, fun q => by have := hlt kb q; omega, by omega, by omega, Hok.out.2, by rw [HS.out.len]; exact (dims_bx Hok.out.1).2⟩, ⟨bs, hpo.below hb3 hpo.lt, HS.out.len⟩, hno, by omega, by omega, HO1.out.2.2.1⟩
  have HB : Hid (Bx W1 D1 T1 ∧ n = W1 * D1 * T1 ∧ OkDims (W1 : Int) (D1 : Int) (T1 : Int) n) := ⟨(dims_bx Hok.out.1).1, (dims_bx Hok.out.1).2, Hok.out.1⟩
  clear hrw hfd hkp hzk hzg hb3 HF Hok HO1
  go_wp2_with fail
  go_loopw [15] (fun vx wr => ∃ i : Nat, i ≤ n ∧ vx = .int .i64 (i : Int) ∧ Hid (Own J w W1 D1 T1 bs p g kb cap n F ob wr)) (fun vx _ => n - (intOf vx).toNat)
  case atStart => exact ⟨0, by omega, rfl, HT.out⟩
  case round =>
    clear HT
    obtain ⟨i, hi, rfl, HJ⟩ := hrel
    by_cases hx : i < n
    case pos =>
      have hx' : (i : Int) < (n : Int) := by omega
      obtain ⟨x, hcx, hfx⟩ := HJ.out.cell hx
      have HE : Hid (Own J w W1 D1 T1 bs p g kb cap n F ob (wr.setCell ⟨ob, i, none⟩ (.int .u8 13))) := HJ.out.set HG0.out i 13
      clear HJ HP HS HB HG0
      go_wp2
      exact ⟨⟨i + 1, by omega, rfl, HE⟩, by simp [intOf]; omega⟩
    have hx' : ¬ (i : Int) < (n : Int) := by omega
    have hsk := HJ.out.t.j.skyT HB.out.1 HJ.out.t.kk HJ.out.t.kl HB.out.2.1
    go_wp2_with fail
    refine hsk.mono ?_
    clear hsk
    rintro _ w4 ⟨xb, xc, F4, l4, rfl, hp4, hl4, hz4, hn4, hA4, ho4, hs4⟩
    have HX : Hid (Own J w W1 D1 T1 bs p g kb cap n F4 xb w4) := by
      have h := HJ.out
      have hg := (Array.getElem?_eq_some_iff.1 h.t.fd).1
      have hk := h.t.kp.lt
      have hz := h.t.j.b.size
      exact ⟨h.t.step hA4 ho4 hs4, ⟨l4, hp4, hl4⟩, hn4, by omega, by omega, by omega⟩
    clear hp4 hl4 hz4 hn4 hA4 ho4 hs4 HJ
    go_wp2_with fail
    go_loopw [17] (fun vx wr => ∃ i : Nat, i ≤ n ∧ vx = .int .i64 (i : Int) ∧ Hid (Own J w W1 D1 T1 bs p g kb cap n F4 xb wr)) (fun vx _ => n - (intOf vx).toNat)
    case atStart => exact ⟨0, by omega, rfl, HX.out⟩
    case round =>
      clear HX
      obtain ⟨i2, hi2, rfl, HJ⟩ := hrel
      by_cases hx2 : i2 < n
      case pos =>
        have hx2' : (i2 : Int) < (n : Int) := by omega
        obtain ⟨x, hcx, hfx⟩ := HJ.out.cell hx2
        have HE : Hid (Own J w W1 D1 T1 bs p g kb cap n F4 xb (wr.setCell ⟨xb, i2, none⟩ (.int .u8 99))) := HJ.out.set HG0.out i2 99
        clear HJ HP HS HB HG0
        go_wp2
        exact ⟨⟨i2 + 1, by omega, rfl, HE⟩, by simp [intOf]; omega⟩
      have hx2' : ¬ (i2 : Int) < (n : Int) := by omega
      have c3 := HJ.out.t.fd.c3
      have hn0 : bs.length = n := by rw [HB.out.2.1]; exact HJ.out.t.kl
      have hsrc : Src wr (some ⟨kb, 0, none⟩) n bs := by have := HJ.out.t.kp.src HJ.out.t.kk; rwa [hn0] at this
      have htl := tells_c J W1 D1 T1 bs p F4 (some ⟨kb, 0, none⟩) n cap wr HB.out.2.2 HB.out.1 HJ.out.t.j.g HJ.out.t.j.a HJ.out.t.kk hsrc (fun b o e => by cases e; exact HJ.out.t.nk)
      clear hsrc hn0
      go_wp2_with fail
      refine htl.mono ?_
      clear htl
      rintro _ w6 ⟨rfl, F6, hA6, ho6, hs6⟩
      have R := HP.out w6 (HJ.out.t.step hA6 ho6 hs6).j.b
      clear HJ HP HS HB HG0 hA6 ho6 hs6 c3
      go_wp2
      first | exact R | (go_ret; exact R)
end Go.Proofs.YtmfjmcaaoljjlaaDoor
