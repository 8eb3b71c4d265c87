/-
  The document's overlay in memory: New, Get, Set, Final, Many.
-/
import Derived.Test.YthanmgejgmhccaaOs
import Derived.Laws.AppendOwnNone
set_option maxRecDepth 20000
namespace Go.Proofs.Ythanmgejgmhccaa
open C Go.RowKit Go.Shelf

/-- A block that begins with these bytes. -/
def Pre (w : World) (b : Nat) (cs : List Int) : Prop := ∃ cur, w.heap[b]? = some (.cells cur 5 (0, 0)) ∧ cs.length ≤ cur.size ∧ ∀ k, k < cs.length → cur[k]? = some (.int .u8 (cs.getD k 0))
theorem Pre.lt {w : World} {b : Nat} {cs : List Int} (h : Pre w b cs) : b < w.heap.size := by
  obtain ⟨cur, hc, _⟩ := h
  exact (Array.getElem?_eq_some_iff.1 hc).1
theorem Pre.cell {w : World} {b : Nat} {cs : List Int} (h : Pre w b cs) {k : Nat} (hk : k < cs.length) : w.cell? ⟨b, k, none⟩ = some (.int .u8 (cs.getD k 0)) := by
  obtain ⟨cur, hc, _, ha⟩ := h
  rw [cell_of_row w b k cur 5 (0, 0) hc]
  exact ha k hk
theorem Pre.free {w : World} {b : Nat} {cs : List Int} (h : Pre w b cs) (k : Nat) : w.frozen? ⟨b, k, none⟩ = false := by
  obtain ⟨cur, hc, _⟩ := h
  exact frozen_of_row w b k cur 5 hc
theorem Pre.set {w : World} {b : Nat} {cs : List Int} (h : Pre w b cs) (k : Nat) (x : Int) : Pre (w.setCell ⟨b, k, none⟩ (.int .u8 x)) b (cs.set k x) := by
  obtain ⟨cur, hc, hs, ha⟩ := h
  refine ⟨_, heap_setCell_same w b k cur 5 _ hc, by simpa using hs, fun j hj => ?_⟩
  rw [List.length_set] at hj
  rw [Array.getElem?_setIfInBounds]
  by_cases e : k = j
  · subst e
    rw [if_pos rfl, if_pos (by omega), getD_set_self _ _ _ hj]
  · rw [if_neg e, C.getD_set_ne _ _ e]
    exact ha j hj
theorem Pre.on {w w' : World} {b : Nat} {cs : List Int} (h : Pre w b cs) (hb : Below w.heap.size w w') : Pre w' b cs := by
  have hl := h.lt
  obtain ⟨cur, hc, r⟩ := h
  exact ⟨cur, (hb.block b hl).trans hc, r⟩
theorem Pre.same {w w' : World} {b : Nat} {cs : List Int} (h : Pre w b cs) (hb : w'.heap[b]? = w.heap[b]?) : Pre w' b cs := by
  obtain ⟨cur, hc, r⟩ := h
  exact ⟨cur, hb.trans hc, r⟩
theorem Pre.ne {w : World} {a b : Nat} {t : TypeId} {x : Array Value} {cs : List Int} (h : Pre w b cs) (h' : w.heap[a]? = some (.cells x t (0, 0))) (ht : t ≠ 5) : a ≠ b := by
  obtain ⟨cur, hc, _⟩ := h
  exact blk_ne h' hc ht
theorem blk_pre {w : World} {b : Nat} {cs : List Int} (h : Blk w b 5 cs) : Pre w b cs :=
  ⟨_, h, by rw [vals_size]; exact Nat.le_refl _, fun k hk => by simp [vals, List.getD_eq_getElem?_getD, hk]⟩
theorem Pre.src {w : World} {b : Nat} {cs : List Int} (h : Pre w b cs) (hk : Kinds cs) : Src w (some ⟨b, 0, none⟩) cs.length cs :=
  ⟨rfl, fun k hk' => ⟨b, 0, rfl, h.lt, by rw [Nat.zero_add]; exact h.cell hk'⟩, hk.bytes⟩
/-- The document's overlay at r: its rows lie at a and b. -/
structure Rv (B : Nat) (w : World) (r a ac b bc : Nat) (E G : List Int) (d : Bool) : Prop where
  hd : w.heap[r]? = some (.cells #[.slice (some ⟨a, 0, none⟩) 32768 ac, .slice (some ⟨b, 0, none⟩) 32768 bc, .bool d] 34 (0, 0))
  ga : Pre w a G
  eb : Pre w b E
  sp : Sp E G
  ne : a ≠ b
  br : B ≤ r
  bb : B ≤ b
section
variable {B : Nat} {w w' : World} {r a ac b bc : Nat} {E G : List Int} {d : Bool}
theorem Rv.lt (h : Rv B w r a ac b bc E G d) : r < w.heap.size := (Array.getElem?_eq_some_iff.1 h.hd).1
theorem Rv.on (h : Rv B w r a ac b bc E G d) (hb : Below w.heap.size w w') : Rv B w' r a ac b bc E G d :=
  ⟨(hb.block r h.lt).trans h.hd, h.ga.on hb, h.eb.on hb, h.sp, h.ne, h.br, h.bb⟩
theorem Rv.drewN (h : Rv B w r a ac b bc E G d) (n : Nat) : Rv B (w.drewN n) r a ac b bc E G d := ⟨h.hd, h.ga, h.eb, h.sp, h.ne, h.br, h.bb⟩
theorem Rv.c0 (h : Rv B w r a ac b bc E G d) : w.cell? ⟨r, 0, none⟩ = some (.slice (some ⟨a, 0, none⟩) 32768 ac) := by rw [cell_of_row w r 0 _ 34 (0, 0) h.hd]; rfl
theorem Rv.c1 (h : Rv B w r a ac b bc E G d) : w.cell? ⟨r, 1, none⟩ = some (.slice (some ⟨b, 0, none⟩) 32768 bc) := by rw [cell_of_row w r 1 _ 34 (0, 0) h.hd]; rfl
theorem Rv.c2 (h : Rv B w r a ac b bc E G d) : w.cell? ⟨r, 2, none⟩ = some (.bool d) := by rw [cell_of_row w r 2 _ 34 (0, 0) h.hd]; rfl
theorem Rv.free (h : Rv B w r a ac b bc E G d) (k : Nat) : w.frozen? ⟨r, k, none⟩ = false := frozen_of_row w r k _ 34 h.hd
theorem Rv.ra (h : Rv B w r a ac b bc E G d) : r ≠ a := h.ga.ne h.hd (by decide)
theorem Rv.rb (h : Rv B w r a ac b bc E G d) : r ≠ b := h.eb.ne h.hd (by decide)
/-- An overlay of the program is told apart by its blocks' types. -/
theorem Rv.only (h : Rv B w r a ac b bc E G d) {B' o e g : Nat} {E' G' : List Int} {d' : Bool} (ho : Ov B' w o e g E' G' d') (h2 : Only2 o e w w') : Rv B w' r a ac b bc E G d := by
  have k1 : r ≠ o := blk_ne h.hd ho.hd (by decide)
  have k2 : r ≠ e := blk_ne h.hd ho.eb (by decide)
  have k3 : a ≠ o := fun q => h.ga.ne ho.hd (by decide) q.symm
  have k4 : a ≠ e := fun q => h.ga.ne ho.eb (by decide) q.symm
  have k5 : b ≠ o := fun q => h.eb.ne ho.hd (by decide) q.symm
  have k6 : b ≠ e := fun q => h.eb.ne ho.eb (by decide) q.symm
  exact ⟨(h2.block r k1 k2).trans h.hd, h.ga.same (h2.block a k3 k4), h.eb.same (h2.block b k5 k6), h.sp, h.ne, h.br, h.bb⟩
theorem Rv.setd (h : Rv B w r a ac b bc E G d) (d' : Bool) : Rv B (w.setCell ⟨r, 2, none⟩ (.bool d')) r a ac b bc E G d' :=
  ⟨by rw [heap_setCell_same w r 2 _ 34 _ h.hd]; rfl, h.ga.same (Below.heap_setCell w ⟨r, 2, none⟩ _ a (Ne.symm h.ra)), h.eb.same (Below.heap_setCell w ⟨r, 2, none⟩ _ b (Ne.symm h.rb)), h.sp, h.ne, h.br, h.bb⟩
theorem Rv.put (h : Rv B w r a ac b bc E G d) (k : Nat) (x : Int) (hs : Sp (E.set k x) G) : Rv B (w.setCell ⟨b, k, none⟩ (.int .u8 x)) r a ac b bc (E.set k x) G d :=
  ⟨(Below.heap_setCell w ⟨b, k, none⟩ _ r h.rb).trans h.hd, h.ga.same (Below.heap_setCell w ⟨b, k, none⟩ _ a h.ne), h.eb.set k x, hs, h.ne, h.br, h.bb⟩
end
set_option maxRecDepth 1000000 in
set_option maxHeartbeats 1000000 in
theorem rget_c {B : Nat} {w : World} {r a ac b bc : Nat} {E G : List Int} {d : Bool} (h : Rv B w r a ac b bc E G d) (i : Int) : Calls Try.prog 14 #[.pointer (some ⟨r, 0, none⟩), .int .i64 i] w fun e w' => e = .returned (.int .i64 (getO E G i)) ∧ w' = w := by
  have c0 := h.c0
  have c1 := h.c1
  unfold getO
  by_cases h0 : 0 ≤ i
  · by_cases h1 : i < 32768
    · rw [if_pos ⟨h0, h1⟩]
      obtain ⟨I, rfl⟩ := Int.eq_ofNat_of_zero_le h0
      have hI : I < 32768 := by omega
      rw [Int.toNat_natCast]
      have ca := h.ga.cell (k := I) (by rw [h.sp.gl]; exact hI)
      have cb := h.eb.cell (k := I) (by rw [h.sp.el]; exact hI)
      have ba := h.sp.gk.at I
      have bb := h.sp.ek.at I
      unfold finK
      clear h
      generalize G.getD I 0 = x at *
      generalize E.getD I 0 = y at *
      by_cases e16 : y = 16
      · subst e16
        rw [if_pos rfl]
        go_enter Try.func14, Try.ntmps14
        go_wp2
        go_ret
        exact ⟨rfl, rfl⟩
      · rw [if_neg e16]
        have e16' : (y != 16) = true := by simp [e16]
        clear e16
        go_enter Try.func14, Try.ntmps14
        go_wp2
        go_ret
        exact ⟨rfl, rfl⟩
    · rw [if_neg (by omega)]
      clear h
      go_enter Try.func14, Try.ntmps14
      go_wp2
      go_ret
      exact ⟨rfl, rfl⟩
  · rw [if_neg (by omega)]
    clear h
    go_enter Try.func14, Try.ntmps14
    go_wp2
    go_ret
    exact ⟨rfl, rfl⟩
/-- What the document's Set leaves: just its own blocks are others. -/
def RsetSay (B r a ac b bc : Nat) (E G : List Int) (d : Bool) (i k : Int) (w : World) (e : Ending) (w' : World) : Prop := e = .returned (.int .i64 (codeO i k)) ∧ Rv B w' r a ac b bc (setE E G i k) G (setD E G d i k) ∧ Only2 r b w w'
set_option maxRecDepth 1000000 in
set_option maxHeartbeats 2000000 in
theorem rset_o {B : Nat} {w : World} {r a ac b bc : Nat} {E G : List Int} {d : Bool} (h : Rv B w r a ac b bc E G d) (i k : Int) : Calls Try.prog 12 #[.pointer (some ⟨r, 0, none⟩), .int .i64 i, .int .i64 k] w (RsetSay B r a ac b bc E G d i k w) := by
  obtain ⟨Post, hPost⟩ : ∃ Post : Ending → World → Prop, Post = RsetSay B r a ac b bc E G d i k w := ⟨_, rfl⟩
  rw [← hPost]
  have HP : Hid (∀ c w', codeO i k = c → Rv B w' r a ac b bc (setE E G i k) G (setD E G d i k) → Only2 r b w w' → Post (.returned (.int .i64 c)) w') := fun c w' h1 h2 h3 => by rw [hPost, ← h1]; exact ⟨rfl, h2, h3⟩
  clear hPost
  have HO : Hid (Rv B w r a ac b bc E G d) := h
  have c0 := h.c0
  clear h
  by_cases h0 : 0 ≤ i
  · by_cases h1 : i < 32768
    · have hin : 0 ≤ i ∧ i < 32768 := ⟨h0, h1⟩
      by_cases hk : 0 ≤ k ∧ k < 16
      · have hc : codeO i k = 0 := by unfold codeO; rw [if_pos hin, if_pos hk]
        have HP0 : Hid (∀ w', Rv B w' r a ac b bc (setE E G i k) G (setD E G d i k) → Only2 r b w w' → Post (.returned (.int .i64 0)) w') := fun w' h1 h2 => HP.out 0 w' hc h1 h2
        clear HP hc
        have hg := rget_c HO.out i
        obtain ⟨U, hU⟩ : ∃ U, getO E G i = U := ⟨_, rfl⟩
        rw [hU] at hg
        obtain ⟨k0, k1⟩ := hk
        by_cases hkU : U = k
        · subst hkU
          have R : Post (.returned (.int .i64 0)) w := HP0.out _ (by
            have e1 := setE_still HO.out.sp hU
            have e2 : setD E G d i U = d := by
              unfold setD
              rw [decide_eq_false (fun q => q.2 hU), Bool.or_false]
            rw [e1, e2]
            exact HO.out) (Only2.refl _ _ _)
          clear HP0 hU
          go_enter Try.func12, Try.ntmps12
          go_wp2_with fail
          refine hg.mono ?_
          clear hg
          rintro _ w1 ⟨rfl, hw⟩
          subst hw
          go_wp2
          exact R
        · have hkU' : (U == k) = false := by simp [hkU]
          have e2 : setD E G d i k = true := by
            unfold setD
            rw [decide_eq_true ⟨⟨h0, h1, k0, k1⟩, fun q => hkU (hU.symm.trans q)⟩, Bool.or_true]
          have hse : setE E G i k = E.set i.toNat (newK G i.toNat k) := if_pos ⟨h0, h1, k0, k1⟩
          rw [e2, hse] at HP0
          obtain ⟨I, rfl⟩ := Int.eq_ofNat_of_zero_le h0
          rw [Int.toNat_natCast] at HP0 hse
          have hI : I < 32768 := by omega
          obtain ⟨K, rfl⟩ := Int.eq_ofNat_of_zero_le k0
          have hK : K < 16 := by omega
          have h1w := HO.out.setd true
          have HO1 : Hid (Rv B (w.setCell ⟨r, 2, none⟩ (.bool true)) r a ac b bc E G true) := h1w
          clear h1w
          have c2 := HO.out.c2
          have f2 := HO.out.free 2
          have d0 := HO1.out.c0
          have d1 := HO1.out.c1
          have da := HO1.out.ga.cell (k := I) (by rw [HO.out.sp.gl]; exact hI)
          have db := HO1.out.eb.cell (k := I) (by rw [HO.out.sp.el]; exact hI)
          have fb := HO1.out.eb.free I
          have HSp : Hid (Sp (E.set I (newK G I K)) G) := by
            have := HO.out.sp.set I K
            rw [hse] at this
            exact this
          obtain ⟨V, hV⟩ : ∃ V, G.getD I 0 = V := ⟨_, rfl⟩
          rw [hV] at da
          have HV : Hid (G.getD I 0 = V) := hV
          clear hV
          have n1 : r ≠ b := HO.out.rb
          have R1 : Hid (¬ V = (K : Int) → Post (.returned (.int .i64 0)) ((w.setCell ⟨r, 2, none⟩ (.bool true)).setCell ⟨b, I, none⟩ (.int .u8 (K : Int)))) := fun q => by
            have e : newK G I K = K := by
              unfold newK
              rw [if_neg (fun h => q (by rw [← HV.out]; exact h.symm))]
            have hs := HSp.out
            rw [e] at HP0 hs
            exact HP0.out _ (HO1.out.put I K hs) ((((Only2.refl r b w).set 2 _)).of ((Only.refl b _).set I _))
          have R2 : Hid (V = (K : Int) → Post (.returned (.int .i64 0)) (((w.setCell ⟨r, 2, none⟩ (.bool true)).setCell ⟨b, I, none⟩ (.int .u8 (K : Int))).setCell ⟨b, I, none⟩ (.int .u8 16))) := fun q => by
            have e : newK G I K = 16 := by
              unfold newK
              rw [if_pos (by rw [HV.out]; exact q.symm)]
            have hs := HSp.out
            rw [e] at HP0 hs
            refine HP0.out _ ?_ (((((Only2.refl r b w).set 2 _)).of ((Only.refl b _).set I _)).of ((Only.refl b _).set I _))
            have p2 := (HO1.out.eb.set I (K : Int)).set I 16
            rw [List.set_set] at p2
            exact ⟨(Below.heap_setCell _ ⟨b, I, none⟩ _ r n1).trans ((Below.heap_setCell _ ⟨b, I, none⟩ _ r n1).trans HO1.out.hd), (HO1.out.ga.same (Below.heap_setCell _ ⟨b, I, none⟩ _ a HO.out.ne)).same (Below.heap_setCell _ ⟨b, I, none⟩ _ a HO.out.ne), p2, hs, HO.out.ne, HO.out.br, HO.out.bb⟩
          have g0 : ((w.setCell ⟨r, 2, none⟩ (.bool true)).setCell ⟨b, I, none⟩ (.int .u8 (K : Int))).cell? ⟨r, 0, none⟩ = some (.slice (some ⟨a, 0, none⟩) 32768 ac) := by
            rw [cell_of_row _ r 0 _ 34 (0, 0) ((Below.heap_setCell _ ⟨b, I, none⟩ _ r n1).trans HO1.out.hd)]; rfl
          have g1 : ((w.setCell ⟨r, 2, none⟩ (.bool true)).setCell ⟨b, I, none⟩ (.int .u8 (K : Int))).cell? ⟨r, 1, none⟩ = some (.slice (some ⟨b, 0, none⟩) 32768 bc) := by
            rw [cell_of_row _ r 1 _ 34 (0, 0) ((Below.heap_setCell _ ⟨b, I, none⟩ _ r n1).trans HO1.out.hd)]; rfl
          have ga := (HO1.out.ga.same (Below.heap_setCell _ ⟨b, I, none⟩ (.int .u8 (K : Int)) a HO.out.ne)).cell (k := I) (by rw [HO.out.sp.gl]; exact hI)
          rw [HV.out] at ga
          have gb := (HO1.out.eb.set I (K : Int)).cell (k := I) (by rw [List.length_set, HO.out.sp.el]; exact hI)
          have gf := (HO1.out.eb.set I (K : Int)).free I
          generalize (E.set I (K : Int)).getD I 0 = y2 at gb
          generalize E.getD I 0 = y1 at db
          have hI' : (I : Int) < 32768 := by omega
          have hK' : (K : Int) < 16 := by omega
          have c1 := HO.out.c1
          clear HP0 HO HO1 HSp HV hse hU e2 hkU hin h1 k1
          go_enter Try.func12, Try.ntmps12
          go_wp2_with fail
          refine hg.mono ?_
          clear hg
          rintro _ w0 ⟨rfl, hw⟩
          subst hw
          go_upto_region 8 with fail
          generalize w0.setCell ⟨r, 2, none⟩ (.bool true) = w1 at *
          go_upto_region 9 with fail
          generalize w1.setCell ⟨b, I, none⟩ (.int .u8 (K : Int)) = w2 at *
          by_cases hVK : V = (K : Int)
          · have R := R2.out hVK
            have hv : (V == (K : Int)) = true := by simp [hVK]
            clear R1 R2 hVK
            go_wp2
            exact R
          · have R := R1.out hVK
            have hv : (V == (K : Int)) = false := by simp [hVK]
            clear R1 R2 hVK
            go_wp2
            exact R
      · have hc : codeO i k = 10 := by unfold codeO; rw [if_pos hin, if_neg hk]
        have R : Post (.returned (.int .i64 10)) w := HP.out 10 _ hc (by
          have e1 : setE E G i k = E := if_neg (fun q => hk q.2.2)
          have e2 : setD E G d i k = d := by
            unfold setD
            rw [decide_eq_false (fun q => hk q.1.2.2), Bool.or_false]
          rw [e1, e2]
          exact HO.out) (Only2.refl _ _ _)
        clear HP hc hin
        by_cases k0 : 0 ≤ k
        · have k1 : ¬ k < 16 := fun q => hk ⟨k0, q⟩
          clear hk
          go_enter Try.func12, Try.ntmps12
          go_wp2
          exact R
        · clear hk
          go_enter Try.func12, Try.ntmps12
          go_wp2
          exact R
    · have hin : ¬ (0 ≤ i ∧ i < 32768) := fun q => h1 q.2
      have hc : codeO i k = 1 := if_neg hin
      have R : Post (.returned (.int .i64 1)) w := HP.out 1 _ hc (by
        have e1 : setE E G i k = E := if_neg (fun q => hin ⟨q.1, q.2.1⟩)
        have e2 : setD E G d i k = d := by
          unfold setD
          rw [decide_eq_false (fun q => hin ⟨q.1.1, q.1.2.1⟩), Bool.or_false]
        rw [e1, e2]
        exact HO.out) (Only2.refl _ _ _)
      clear HP hc hin
      go_enter Try.func12, Try.ntmps12
      go_wp2
      exact R
  · have hin : ¬ (0 ≤ i ∧ i < 32768) := fun q => h0 q.1
    have hc : codeO i k = 1 := if_neg hin
    have R : Post (.returned (.int .i64 1)) w := HP.out 1 _ hc (by
      have e1 : setE E G i k = E := if_neg (fun q => hin ⟨q.1, q.2.1⟩)
      have e2 : setD E G d i k = d := by
        unfold setD
        rw [decide_eq_false (fun q => hin ⟨q.1.1, q.1.2.1⟩), Bool.or_false]
      rw [e1, e2]
      exact HO.out) (Only2.refl _ _ _)
    clear HP hc hin c0
    go_enter Try.func12, Try.ntmps12
    go_wp2
    exact R
end Go.Proofs.Ythanmgejgmhccaa
