/-
  The laws' begun: two overlays side by side; the class of worlds in which rows lie.
-/
import Derived.Test.YthanmgejgmhccaaLaw0
set_option maxRecDepth 20000
namespace Go.Proofs.Ythanmgejgmhccaa
open C Go.RowKit Go.Shelf

/-- The program's overlay and the document's, which tell the same. -/
structure Both (B : Nat) (w : World) (o e g r a ac b bc : Nat) (E G : List Int) (d : Bool) : Prop where
  o : Ov B w o e g E G d
  r : Rv B w r a ac b bc E G d
def BegunSay (n m : Nat) (w : World) (r : Ending) (w' : World) : Prop := (1000 < n ∨ 1000 < m) ∧ r = .returned (.tuple #[.pointer none, .pointer none, .bool false]) ∧ w' = w ∨
  ∃ (o e g q a ac b bc : Nat) (E G : List Int), r = .returned (.tuple #[.pointer (some ⟨o, 0, none⟩), .pointer (some ⟨q, 0, none⟩), .bool true]) ∧ Both w.heap.size w' o e g q a ac b bc E G false ∧ Below w.heap.size w w'
theorem nums_nil (w : World) : Nums w none 0 := fun _ hk => absurd hk (Nat.not_lt_zero _)
set_option maxHeartbeats 2000000 in
theorem begun_c (p : Option Addr) (n cn : Nat) (q : Option Addr) (m cm : Nat) (sm : Bool) (w : World) (hR : Runs w p n) (hQ : Runs w q m) : Calls Try.prog 8 #[.slice p n cn, .slice q m cm, .bool sm] w (BegunSay n m w) := by
  obtain ⟨Post, hPost⟩ : ∃ Post : Ending → World → Prop, Post = BegunSay n m w := ⟨_, rfl⟩
  rw [← hPost]
  have HP : Hid (∀ e w', BegunSay n m w e w' → Post e w') := fun e w' h => by rw [hPost]; exact h
  clear hPost
  have HI : Hid (Runs w p n ∧ Runs w q m) := ⟨hR, hQ⟩
  clear hR hQ
  by_cases hn : n ≤ 1000
  · by_cases hm : m ≤ 1000
    · have hn' : decide ((1000 : Int) < n) = false := decide_eq_false (by omega)
      have hm' : decide ((1000 : Int) < m) = false := decide_eq_false (by omega)
      have hce := cells_c p n cn none 0 0 w HI.out.1 (nums_nil _) hn (by omega)
      go_enter Try.func8, Try.ntmps8
      go_wp2_with fail
      refine hce.mono ?_
      clear hce
      rintro _ w1 ⟨rfl, G, hB1, gl, gk, hb1⟩
      have hma := made_c w.heap.size 32768 G w1 (blk_pre hB1) gl gk
      go_wp2_with fail
      refine hma.mono ?_
      clear hma
      rintro _ w2 ⟨rfl, hC2, hb2⟩
      have hs1 : w.heap.size < w1.heap.size := hB1.lt
      have HA : Hid (Blk w2 w.heap.size 5 G ∧ Blk w2 w1.heap.size 67 G ∧ Below w.heap.size w w2) := ⟨hB1.on hb2, hC2, hb1.trans (hb2.mono hb1.size)⟩
      clear hB1 hb1 hC2 hb2
      obtain ⟨A, hA⟩ : ∃ A, w.heap.size = A := ⟨_, rfl⟩
      obtain ⟨D, hD⟩ : ∃ D, w1.heap.size = D := ⟨_, rfl⟩
      rw [hA] at hs1
      rw [hD] at hs1
      rw [hA, hD] at HA
      rw [hA, hD]
      clear hD w1
      have HAw : Hid (w.heap.size = A) := hA
      clear hA
      cases sm
      · have hov := new_ov D G none none w2 HA.out.2.1 gl gk ⟨.inl ⟨rfl, rfl⟩⟩
        go_wp2_with fail
        refine hov.mono ?_
        clear hov
        rintro _ w3 ⟨o, e, g, E, rfl, hN, hO, hb3⟩
        have HB : Hid (Blk w3 A 5 G ∧ Blk w3 D 67 G ∧ Below A w w3 ∧ Ov w2.heap.size w3 o e g E G false ∧ D < w2.heap.size) := ⟨HA.out.1.on hb3, HA.out.2.1.on hb3, HA.out.2.2.trans (hb3.mono (by have := HA.out.2.2.size; rw [HAw.out] at this; exact this)), hO, HA.out.2.1.lt⟩
        clear hO hb3 HA
        have hfi := fill_c D G 0 127 7 w3 HB.out.2.1 gl
        go_wp2_with fail
        refine hfi.mono ?_
        clear hfi
        rintro _ w4 ⟨rfl, hF, ho⟩
        have HC : Hid (Blk w4 A 5 G ∧ Below A w w4 ∧ Ov w2.heap.size w4 o e g E G false ∧ A ≤ w2.heap.size) := ⟨HB.out.1.only ho (by omega), HB.out.2.2.1.trans (ho.below (by omega)), HB.out.2.2.2.1.only1 ho HB.out.2.2.2.2, by have := HB.out.2.2.2.2; omega⟩
        clear HB hF ho
        have hrn := rnew_c A 32768 G none 0 0 none w4 (blk_pre HC.out.1) gl gk ⟨.inl ⟨rfl, rfl, rfl, rfl⟩⟩
        go_wp2_with fail
        refine hrn.mono ?_
        clear hrn
        rintro _ w5 ⟨r, b, bc, E', rfl, hN', hV, hb5⟩
        obtain rfl := hN.same hN'
        have hs4 : A ≤ w4.heap.size := by have := HC.out.2.1.size; rw [HAw.out] at this; exact this
        have R := HP.out _ w5 (.inr ⟨o, e, g, r, A, 32768, b, bc, E, G, rfl, ⟨(HC.out.2.2.1.on hb5).base (by rw [HAw.out]; exact HC.out.2.2.2), ⟨hV.hd, hV.ga, hV.eb, hV.sp, hV.ne, by rw [HAw.out]; exact Nat.le_trans hs4 hV.br, by rw [HAw.out]; exact Nat.le_trans hs4 hV.bb⟩⟩, by rw [HAw.out]; exact HC.out.2.1.trans (hb5.mono hs4)⟩)
        clear hV hb5 HC
        go_wp2
        exact bodyPost_ret (results_tmp3 (t := 6) (u := 7) (v := 8) rfl _ _ _) rfl R
      · have hR2 := HI.out.2.on (w' := w2) (by rw [HAw.out]; exact HA.out.2.2)
        have hce := cells_c q m cm none 0 0 w2 hR2 (nums_nil _) hm (by omega)
        go_wp2_with fail
        refine hce.mono ?_
        clear hce hR2
        rintro _ w3 ⟨rfl, L, hB3, ll, lk, hb3⟩
        have hma := made_c w2.heap.size 32768 L w3 (blk_pre hB3) ll lk
        go_wp2_with fail
        refine hma.mono ?_
        clear hma
        rintro _ w4 ⟨rfl, hC4, hb4⟩
        have hb24 : Below w2.heap.size w2 w4 := hb3.trans (hb4.mono hb3.size)
        have hs2 : A ≤ w2.heap.size := by have := HA.out.2.2.size; rw [HAw.out] at this; exact this
        have HB0 : Hid (Blk w4 A 5 G ∧ Blk w4 D 67 G ∧ Below A w w4 ∧ Blk w4 w2.heap.size 5 L ∧ Blk w4 w3.heap.size 67 L ∧ D < w2.heap.size ∧ w2.heap.size < w3.heap.size ∧ w3.heap.size < w4.heap.size) := ⟨HA.out.1.on hb24, HA.out.2.1.on hb24, HA.out.2.2.trans (hb24.mono hs2), hB3.on hb4, hC4, HA.out.2.1.lt, hB3.lt, hC4.lt⟩
        clear hB3 hb3 hC4 hb4 hb24 HA
        obtain ⟨I, hI⟩ : ∃ I, w2.heap.size = I := ⟨_, rfl⟩
        obtain ⟨J, hJ⟩ : ∃ J, w3.heap.size = J := ⟨_, rfl⟩
        rw [hI, hJ] at HB0
        rw [hI] at hs2
        rw [hI, hJ]
        clear hI hJ
        have hov := new_ov D G (some ⟨J, 0, none⟩) (some L) w4 HB0.out.2.1 gl gk ⟨.inr ⟨J, L, rfl, rfl, HB0.out.2.2.2.2.1, ll, lk⟩⟩
        go_wp2_with fail
        refine hov.mono ?_
        clear hov
        rintro _ w5 ⟨o, e, g, E, rfl, hN, hO, hb5⟩
        have hs4 : A ≤ w4.heap.size := by have := HB0.out.2.2.1.size; rw [HAw.out] at this; exact this
        have HB : Hid (Blk w5 A 5 G ∧ Blk w5 D 67 G ∧ Below A w w5 ∧ Blk w5 I 5 L ∧ Blk w5 J 67 L ∧ Ov w4.heap.size w5 o e g E G false) := ⟨HB0.out.1.on hb5, HB0.out.2.1.on hb5, HB0.out.2.2.1.trans (hb5.mono hs4), HB0.out.2.2.2.1.on hb5, HB0.out.2.2.2.2.1.on hb5, hO⟩
        obtain ⟨z1, z2, z3⟩ := HB0.out.2.2.2.2.2
        clear hO hb5 HB0
        have hfi := fill_c D G 0 127 7 w5 HB.out.2.1 gl
        go_wp2_with fail
        refine hfi.mono ?_
        clear hfi
        rintro _ w6 ⟨rfl, hF, ho⟩
        have HC : Hid (Blk w6 A 5 G ∧ Below A w w6 ∧ Blk w6 I 5 L ∧ Blk w6 J 67 L ∧ Ov w4.heap.size w6 o e g E G false) := ⟨HB.out.1.only ho (by omega), HB.out.2.2.1.trans (ho.below (by omega)), HB.out.2.2.2.1.only ho (by omega), HB.out.2.2.2.2.1.only ho (by omega), HB.out.2.2.2.2.2.only1 ho (by omega)⟩
        clear HB hF ho
        have hfi := fill_c J L 0 127 9 w6 HC.out.2.2.2.1 ll
        go_wp2_with fail
        refine hfi.mono ?_
        clear hfi
        rintro _ w7 ⟨rfl, hF, ho⟩
        have HE : Hid (Blk w7 A 5 G ∧ Below A w w7 ∧ Blk w7 I 5 L ∧ Ov w4.heap.size w7 o e g E G false) := ⟨HC.out.1.only ho (by omega), HC.out.2.1.trans (ho.below (by omega)), HC.out.2.2.1.only ho (by omega), HC.out.2.2.2.2.only1 ho (by omega)⟩
        clear HC hF ho
        have hrn := rnew_c A 32768 G (some ⟨I, 0, none⟩) 32768 32768 (some L) w7 (blk_pre HE.out.1) gl gk ⟨.inr ⟨I, L, rfl, rfl, rfl, blk_pre HE.out.2.2.1, ll, lk⟩⟩
        go_wp2_with fail
        refine hrn.mono ?_
        clear hrn
        rintro _ w8 ⟨r, b, bc, E', rfl, hN', hV, hb8⟩
        obtain rfl := hN.same hN'
        have hs7 : A ≤ w7.heap.size := by have := HE.out.2.1.size; rw [HAw.out] at this; exact this
        have R := HP.out _ w8 (.inr ⟨o, e, g, r, A, 32768, b, bc, E, G, rfl, ⟨(HE.out.2.2.2.on hb8).base (by rw [HAw.out]; exact hs4), ⟨hV.hd, hV.ga, hV.eb, hV.sp, hV.ne, by rw [HAw.out]; exact Nat.le_trans hs7 hV.br, by rw [HAw.out]; exact Nat.le_trans hs7 hV.bb⟩⟩, by rw [HAw.out]; exact HE.out.2.1.trans (hb8.mono hs7)⟩)
        clear hV hb8 HE
        go_wp2
        exact bodyPost_ret (results_tmp3 (t := 6) (u := 7) (v := 8) rfl _ _ _) rfl R
    · have hn' : decide ((1000 : Int) < n) = false := decide_eq_false (by omega)
      have hm' : decide ((1000 : Int) < m) = true := decide_eq_true (by omega)
      have R := HP.out _ w (.inl ⟨.inr (by omega), rfl, rfl⟩)
      go_enter Try.func8, Try.ntmps8
      go_wp2
      exact bodyPost_ret (results_tmp3 (t := 6) (u := 7) (v := 8) rfl _ _ _) rfl R
  · have hn' : decide ((1000 : Int) < n) = true := decide_eq_true (by omega)
    have R := HP.out _ w (.inl ⟨.inl (by omega), rfl, rfl⟩)
    go_enter Try.func8, Try.ntmps8
    go_wp2
    exact bodyPost_ret (results_tmp3 (t := 6) (u := 7) (v := 8) rfl _ _ _) rfl R
/-- A world behind another one, in which these rows lie. -/
structure Kq (v : World) (l : List (Nat × List Int)) (u : World) : Prop where
  b : Below v.heap.size v u
  r : ∀ x ∈ l, Src u (some ⟨x.1, 0, none⟩) 32768 x.2
theorem Kq.nil {v u : World} (h : Below v.heap.size v u) : Kq v [] u := ⟨h, fun _ hx => absurd hx List.not_mem_nil⟩
theorem Kq.on {v u u' : World} {l : List (Nat × List Int)} (h : Kq v l u) (hb : Below u.heap.size u u') : Kq v l u' := ⟨h.b.trans (hb.mono h.b.size), fun x hx => (h.r x hx).on hb (Nat.le_refl _)⟩
theorem Kq.more {v u u' : World} {l : List (Nat × List Int)} (h : Kq v l u) (hb : Below u.heap.size u u') {g : Nat} {cs : List Int} (hr : Pre u' g cs) (hl : cs.length = 32768) (hk : Kinds cs) : Kq v ((g, cs) :: l) u' := by
  refine ⟨(h.on hb).b, fun x hx => ?_⟩
  rcases List.mem_cons.1 hx with rfl | hx
  · have := hr.src hk
    rw [hl] at this
    exact this
  · exact (h.on hb).r x hx
theorem kq_less {v : World} {x : Nat × List Int} {l : List (Nat × List Int)} (u : World) (h : Kq v (x :: l) u) : Kq v l u := ⟨h.b, fun y hy => h.r y (List.mem_cons_of_mem _ hy)⟩
theorem kq_text {v : World} {l : List (Nat × List Int)} {g c : Nat} {cs : List Int} {X : ByteArray} (hX : strOfNums cs = X) (s : Sub (Kq v ((g, cs) :: l))) : (convert 32 9 (.slice (some ⟨g, 0, none⟩) 32768 c)).run Try.prog s.w = .ok (.string X) s.w := by
  rw [← hX]
  exact conv_c (s.ok.r (g, cs) (List.mem_cons_self ..))
theorem pre_text {w : World} {g c : Nat} {cs : List Int} {X : ByteArray} (h : Pre w g cs) (hl : cs.length = 32768) (hk : Kinds cs) (hX : strOfNums cs = X) : (convert 32 9 (.slice (some ⟨g, 0, none⟩) 32768 c)).run Try.prog w = .ok (.string X) w := by
  rw [← hX]
  have := h.src hk
  rw [hl] at this
  exact conv_c this
section
variable {va u : World} {l : List (Nat × List Int)} {B : Nat}
theorem bytes_q (h : Kq va l u) {x : Nat} {cs : List Int} (hB : Blk u x 67 cs) (hl : cs.length = 32768) (hk : Kinds cs) : Calls Try.prog 21 #[.pointer (some ⟨x, 0, none⟩)] u fun e u' => ∃ g, e = .returned (.slice (some ⟨g, 0, none⟩) 32768 32768) ∧ Kq va ((g, cs) :: l) u' :=
  (bytes_c x cs u hB hl).mono fun _ _ ⟨he, hR, hb⟩ => ⟨_, he, h.more hb (blk_pre hR) hl hk⟩
theorem full_q (h : Kq va l u) : Calls Try.prog 23 #[.int .i64 16] u fun e u' => ∃ g, e = .returned (.slice (some ⟨g, 0, none⟩) 32768 32768) ∧ Kq va ((g, List.replicate 32768 16) :: l) u' :=
  (C.rnew_c 16 (by omega) (by omega) u).mono fun _ _ ⟨he, hR, hb⟩ => ⟨_, he, h.more hb (blk_pre hR) List.length_replicate (none_kinds _)⟩
theorem fin_q {o e g : Nat} {E G : List Int} {d : Bool} (h : Kq va l u) (hO : Ov B va o e g E G d) : Calls Try.prog 20 #[.pointer (some ⟨o, 0, none⟩)] u fun r u' => ∃ x cs, r = .returned (.pointer (some ⟨x, 0, none⟩)) ∧ Blk u' x 67 cs ∧ IsFin E G cs ∧ Kq va l u' :=
  (final_o (hO.on h.b)).mono fun _ _ ⟨x, cs, he, _, hB, hF, hb⟩ => ⟨x, cs, he, hB, hF, h.on hb⟩
theorem ed_q {o e g : Nat} {E G : List Int} {d : Bool} (h : Kq va l u) (hO : Ov B va o e g E G d) : Calls Try.prog 19 #[.pointer (some ⟨o, 0, none⟩)] u fun r u' => ∃ x, r = .returned (.pointer (some ⟨x, 0, none⟩)) ∧ Blk u' x 67 E ∧ Kq va l u' :=
  (edits_c (hO.on h.b)).mono fun _ _ ⟨he, hB, hb⟩ => ⟨_, he, hB, h.on hb⟩
theorem many_q {o e g : Nat} {E G : List Int} {d : Bool} (h : Kq va l u) (hO : Ov B va o e g E G d) : Calls Try.prog 22 #[.pointer (some ⟨o, 0, none⟩)] u fun r u' => r = .returned (.int .i64 (manyE E)) ∧ Kq va l u' :=
  (many_o (hO.on h.b)).mono fun _ _ ⟨he, hb⟩ => ⟨he, h.on hb⟩
theorem dirty_q {o e g : Nat} {E G : List Int} {d : Bool} (h : Kq va l u) (hO : Ov B va o e g E G d) : Calls Try.prog 15 #[.pointer (some ⟨o, 0, none⟩)] u fun r u' => r = .returned (.bool d) ∧ Kq va l u' :=
  (dirty_c (hO.on h.b)).mono fun _ _ ⟨he, hw⟩ => ⟨he, by rw [hw]; exact h⟩
theorem get_q {o e g : Nat} {E G : List Int} {d : Bool} (h : Kq va l u) (hO : Ov B va o e g E G d) (i : Int) : Calls Try.prog 13 #[.pointer (some ⟨o, 0, none⟩), .int .i64 i] u fun r u' => r = .returned (.int .i64 (getO E G i)) ∧ Kq va l u' :=
  (get_o (hO.on h.b) i).mono fun _ _ ⟨he, hw⟩ => ⟨he, by rw [hw]; exact h⟩
theorem rfin_q {r a ac b bc : Nat} {E G : List Int} {d : Bool} (h : Kq va l u) (hO : Rv B va r a ac b bc E G d) : Calls Try.prog 27 #[.pointer (some ⟨r, 0, none⟩)] u fun e u' => ∃ g cs, e = .returned (.slice (some ⟨g, 0, none⟩) 32768 32768) ∧ IsFin E G cs ∧ Kq va ((g, cs) :: l) u' :=
  (rfinal_c (hO.on h.b)).mono fun _ _ ⟨cs, he, hR, hF, hb⟩ => ⟨_, cs, he, hF, h.more hb (blk_pre hR) hF.len hF.k⟩
theorem rmany_q {r a ac b bc : Nat} {E G : List Int} {d : Bool} (h : Kq va l u) (hO : Rv B va r a ac b bc E G d) : Calls Try.prog 28 #[.pointer (some ⟨r, 0, none⟩)] u fun e u' => e = .returned (.int .i64 (manyE E)) ∧ Kq va l u' :=
  (rmany_c (hO.on h.b)).mono fun _ _ ⟨he, hw⟩ => ⟨he, by rw [hw]; exact h⟩
end
end Go.Proofs.Ythanmgejgmhccaa
