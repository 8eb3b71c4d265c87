/-
  LadderGrows, walked over any ladder package that keeps what is asked.
-/
import Derived.Test.YtokjbjfpgjincabLgr
set_option maxRecDepth 20000
namespace Go.Proofs.Ytokjbjfpgjincab
open Go.RowKit

section
variable {P : Program} {ops : Array Oper} {Q : Exit → Act → World → Prop} {md : Region.Mode} {S : World → Prop} {n : Nat}
/-- Two may come up. -/
theorem two_L {i j : Nat} {oi oj : Oper} {fuel : Nat} {listed : Array Bool} {a : Act} {w : World} (hr : Region.ready md ops listed = [i, j]) (hoi : ops[i]? = some oi) (hoj : ops[j]? = some oj)
    (h1 : ∀ K' : Act → World → Prop, Shut (∀ a w, (i ≠ n → S w) → wpAnyL P md ops Q S n fuel (listed.setIfInBounds i true) a w → K' a w) → if Region.wanted oi (yielded ops a.tmps) = true then Oper.wp P oi a w K' Q else K' (a.put oi.dst undef) w)
    (h2 : ∀ K' : Act → World → Prop, Shut (∀ a w, (j ≠ n → S w) → wpAnyL P md ops Q S n fuel (listed.setIfInBounds j true) a w → K' a w) → if Region.wanted oj (yielded ops a.tmps) = true then Oper.wp P oj a w K' Q else K' (a.put oj.dst undef) w) : wpAnyL P md ops Q S n (fuel + 1) listed a w :=
  ⟨fun h0 => (by rw [hr] at h0; cases h0), fun k hk => (by
    rw [hr] at hk
    rcases List.mem_cons.1 hk with rfl | hk
    · exact wpOp_step hoi (fun K' hK => h1 K' (fun a w hS hW => hK a w ⟨hS, hW⟩))
    · obtain rfl := List.mem_singleton.1 hk
      exact wpOp_step hoj (fun K' hK => h2 K' (fun a w hS hW => hK a w ⟨hS, hW⟩)))⟩
theorem two_Lg {i j : Nat} {oi oj : Oper} {fuel : Nat} {listed : Array Bool} {a : Act} {w : World} (hr : Region.ready md ops listed = [i, j]) (hoi : ops[i]? = some oi) (hoj : ops[j]? = some oj) (hg : oi.guard = none)
    (h1 : ∀ K' : Act → World → Prop, Shut (∀ a w, (i ≠ n → S w) → wpAnyL P md ops Q S n fuel (listed.setIfInBounds i true) a w → K' a w) → Oper.wp P oi a w K' Q)
    (h2 : ∀ K' : Act → World → Prop, Shut (∀ a w, (j ≠ n → S w) → wpAnyL P md ops Q S n fuel (listed.setIfInBounds j true) a w → K' a w) → if Region.wanted oj (yielded ops a.tmps) = true then Oper.wp P oj a w K' Q else K' (a.put oj.dst undef) w) : wpAnyL P md ops Q S n (fuel + 1) listed a w :=
  two_L hr hoi hoj (fun K' hK => by rw [if_pos (by simp [Region.wanted, hg])]; exact h1 K' hK) h2
end
theorem ownR_base {W : World} {b b' c : Nat} {a : Option Addr} {l : List Rd} (h : OwnR W b a c l) (hb : b' ≤ b) : OwnR W b' a c l := by
  refine ⟨h.1, ?_⟩
  rcases h.2 with h0 | ⟨g, cap, cur, hv, hg, hr⟩
  · exact .inl h0
  · exact .inr ⟨g, cap, cur, hv, Nat.le_trans hb hg, hr⟩
set_option maxHeartbeats 4000000 in
theorem ladderGrows_walk (J : LSpec) (a0 : Option Addr) (n c : Nat) (L : List Rn) (k t ms mq : Int) (w : World) (hR : RgAt w a0 L) (hn : L.length = n) (hnil : a0 = none → n = 0 ∧ c = 0) (hle : n * 24 ≤ 140737488351232) (hL : ∀ x ∈ L, x.r.length ≤ 8796093021952) (hk : I64 k) (ht : I64 t) (hms : I64 ms) (hmq : I64 mq) :
    Calls Try.prog 3 #[.slice a0 n c, .int .i64 k, .int .i64 t, .agg #[.int .i64 ms, .int .i64 mq]] w fun e w' => e = .returned (.bool true) ∧ Below w.heap.size w w' := by
  obtain ⟨Post, hPost⟩ : ∃ Post : Ending → World → Prop, Post = fun e w' => e = .returned (.bool true) ∧ Below w.heap.size w w' := ⟨_, rfl⟩
  rw [← hPost]
  have HP : Hid (∀ w', Below w.heap.size w w' → Post (.returned (.bool true)) w') := fun w' h => by rw [hPost]; exact ⟨rfl, h⟩
  clear hPost
  have HR : Hid (RgAt w a0 L) := hR
  have Hk : Hid (I64 k) := hk
  have Hn : Hid (L.length = n) := hn
  have Hnil : Hid (a0 = none → n = 0 ∧ c = 0) := hnil
  have HL : Hid (∀ x ∈ L, x.r.length ≤ 8796093021952) := hL
  have Hms : Hid (I64 ms ∧ I64 mq) := ⟨hms, hmq⟩
  have hmax : n ≤ maxLen := by unfold maxLen; omega
  obtain ⟨hk1, hk2⟩ := hk
  obtain ⟨ht1, ht2⟩ := ht
  clear hR hn hnil hL hms hmq
  have Hb0 : Hid (Below w.heap.size w (w.alloc (.cells #[.int .i64 ms, .int .i64 mq] 24))) := (Below.refl _ _).alloc (Nat.le_refl _) _
  have HX0 : Hid ((w.alloc (.cells #[.int .i64 ms, .int .i64 mq] 24)).heap[w.heap.size]? = some (.cells #[.int .i64 ms, .int .i64 mq] 24 (0, 0))) := heap_alloc_new w _
  go_enter Try.func3, Try.ntmps3
  go_wp2_with fail
  have hsz : (w.alloc (.cells #[.int .i64 ms, .int .i64 mq] 24)).heap.size = w.heap.size + 1 := by simp
  generalize w.alloc (.cells #[.int .i64 ms, .int .i64 mq] 24) = w0 at *
  refine (awake_c J w0).mono ?_
  rintro _ w1 ⟨rfl, hb1⟩
  have Hb1 : Hid (Below w.heap.size w w1) := Hb0.out.trans (hb1.mono Hb0.out.size)
  have HX1 : Hid (w1.heap[w.heap.size]? = some (.cells #[.int .i64 ms, .int .i64 mq] 24 (0, 0))) := (hb1.block _ (by omega)).trans HX0.out
  clear hb1 HX0 Hb0
  have R1 := HP.out w1 Hb1.out
  by_cases g1 : t < 0
  · clear HP
    go_wp2
    exact R1
  by_cases g2 : (n : Int) ≤ t
  · clear HP
    go_wp2
    exact R1
  by_cases g3 : k < 0
  · clear HP
    go_wp2
    exact R1
  by_cases g4 : (n : Int) ≤ k
  · clear HP
    go_wp2
    exact R1
  clear R1
  obtain ⟨A, rfl⟩ := Int.eq_ofNat_of_zero_le (show 0 ≤ t by omega)
  have hAn : A < n := by omega
  have hAn' : (A : Int) < (n : Int) := by omega
  have hAl : A < L.length := by rw [Hn.out]; exact hAn
  go_wp2_with (at_builtin; refine wpList_copy_rg rfl _ rfl a0 n c L Hn.out rfl (HR.out.on Hb1.out) Hnil.out hle ?_; intro a2 c2 w2 HO2 hb2)
  obtain ⟨g, rfl, hlo, hRow⟩ := HO2.out.row1 (by omega)
  rw [Hn.out] at hRow
  have Hb2 : Hid (Below w.heap.size w w2) := Hb1.out.trans (hb2.mono Hb1.out.size)
  have HX2 : Hid (w2.heap[w.heap.size]? = some (.cells #[.int .i64 ms, .int .i64 mq] 24 (0, 0))) := (hb2.block _ (Array.getElem?_eq_some_iff.1 HX1.out).1).trans HX1.out
  have hgw : w.heap.size ≤ g := Nat.le_trans Hb1.out.size hlo
  obtain ⟨lb, lo, rfl, hin⟩ := (HR.out.on Hb2.out) A hAl
  have Hlc : Hid (w2.cell? ⟨lb, lo + A, none⟩ = some (.slice L[A].a L[A].r.length L[A].c)) := hin.c0
  have Hlr : Hid (RdAt w2 L[A].a L[A].r) := hin.rd
  have Hlnil : Hid (L[A].a = none → L[A].c = 0) := hin.nil
  have hm3 : L[A].r.length ≤ 8796093021952 := HL.out _ (List.getElem_mem hAl)
  have HRow2 : Hid (Row1 w2 g n L) := hRow
  obtain ⟨rs, hrs⟩ : ∃ rs, rs = L[A].r := ⟨_, rfl⟩
  obtain ⟨ra, hra⟩ : ∃ ra, ra = L[A].a := ⟨_, rfl⟩
  obtain ⟨rc, hrc⟩ : ∃ rc, rc = L[A].c := ⟨_, rfl⟩
  obtain ⟨m, hm⟩ : ∃ m, m = L[A].r.length := ⟨_, rfl⟩
  have Hrs : Hid (rs = L[A].r) := hrs
  have Hm : Hid (rs.length = m) := by show _ = _; rw [hrs, hm]
  rw [← hm] at Hlc hm3
  rw [← hra, ← hrc] at Hlc Hlnil
  rw [← hra, ← hrs] at Hlr
  clear hin hrs hra hrc hm HO2 hb2 hRow HX1 Hb1 HL
  refine region_L (fun w' => Below w2.drew.heap.size w2.drew w') 13 (by kernel_rfl) ?_
  have hHeld : (fun w' => Below w2.drew.heap.size w2.drew w') w2.drew := Below.refl _ _
  have hne : Nonempty (Sub (fun w' => Below w2.drew.heap.size w2.drew w')) := ⟨⟨_, hHeld⟩⟩
  have Hbd : Hid (Below w.heap.size w w2.drew) := Hb2.out.drew
  have HRowd : Hid (Row1 w2.drew g n L) := ⟨HRow2.out.cell, HRow2.out.free, HRow2.out.len, HRow2.out.lt⟩
  have Hrdc : Hid (RdAt w2.drew ra rs) := Hlr.out.on (Below.refl _ _).drew
  have k0 : ∀ s : Sub (fun w' => Below w2.drew.heap.size w2.drew w'), s.w.cell? ⟨lb, lo + A, none⟩ = some (.slice ra m rc) := fun s => cell_below (w := w2.drew) Hlc.out s.ok
  have k1 : ∀ s : Sub (fun w' => Below w2.drew.heap.size w2.drew w'), s.w.cell? ⟨w.heap.size, 0, none⟩ = some (.int .i64 ms) := fun s => cell_below (w := w2.drew) ((cell_of_row w2 _ 0 _ 24 (0, 0) HX2.out).trans rfl) s.ok
  have k2 : ∀ s : Sub (fun w' => Below w2.drew.heap.size w2.drew w'), s.w.cell? ⟨w.heap.size, 1, none⟩ = some (.int .i64 mq) := fun s => cell_below (w := w2.drew) ((cell_of_row w2 _ 1 _ 24 (0, 0) HX2.out).trans rfl) s.ok
  generalize w2.drew = wd at *
  have Hi64 : Hid (∀ x ∈ rs ++ [(ms, mq)], I64 x.1 ∧ I64 x.2) := fun x hx => by
    rcases List.mem_append.1 hx with hx | hx
    · exact Hrdc.out.i64 x hx
    · rw [List.mem_singleton.1 hx]; exact Hms.out
  clear Hlc HRow2 HX2 Hb2 Hlr
  refine take_L (i := 0) rfl (by kernel_rfl) (by kernel_rfl) (by kernel_rfl) (by kernel_rfl) (fun _ _ _ _ h => h) (by exact hHeld) (fun K hK => ?_)
  go_simp
  refine hK _ ?_
  clear hK K
  refine take_L (i := 1) rfl (by kernel_rfl) (by kernel_rfl) (by kernel_rfl) (by kernel_rfl) (fun _ _ _ _ h => h) (by exact hHeld) (fun K hK => ?_)
  go_simp
  refine hK _ ?_
  clear hK K
  refine take_L (i := 2) rfl (by kernel_rfl) (by kernel_rfl) (by kernel_rfl) (by kernel_rfl) (fun _ _ _ _ h => h) (by exact hHeld) (fun K hK => ?_)
  go_simp
  refine hK _ ?_
  clear hK K
  refine take_L (i := 3) rfl (by kernel_rfl) (by kernel_rfl) (by kernel_rfl) (by kernel_rfl) (fun _ _ _ _ h => h) (by exact hHeld) (fun K hK => ?_)
  go_simp
  refine hK _ ?_
  clear hK K
  refine take_L (i := 4) rfl (by kernel_rfl) (by kernel_rfl) (by kernel_rfl) (by kernel_rfl) (fun _ _ _ _ h => h) (by exact hHeld) (fun K hK => ?_)
  go_simp
  refine hK _ ?_
  clear hK K
  refine take_L (i := 5) rfl (by kernel_rfl) (by kernel_rfl) (by kernel_rfl) (by kernel_rfl) (fun _ _ _ _ h => h) (by exact hHeld) (fun K hK => ?_)
  go_simp
  refine hK _ ?_
  clear hK K
  refine take_L (i := 6) rfl (by kernel_rfl) (by kernel_rfl) (by kernel_rfl) (by kernel_rfl) (fun _ _ _ _ h => h) (by exact hHeld) (fun K hK => ?_)
  go_simp
  refine hK _ ?_
  clear hK K
  refine take_L (i := 8) rfl (by kernel_rfl) (by kernel_rfl) (by kernel_rfl) (by kernel_rfl) (fun _ _ _ _ h => h) (by exact hHeld) (fun K hK => ?_)
  go_simp
  refine hK _ ?_
  clear hK K
  refine two_Lg (i := 7) (j := 9) (by kernel_rfl) rfl rfl rfl (fun K hK => ?_) (fun K hK => ?_)
  · refine wp_copy_rd _ rfl ra m rc rs Hm.out rfl Hrdc.out Hlnil.out (by omega) wd.heap.size wd (Below.refl _ _) (Nat.le_refl _) ?_
    intro a3 c3 w3 HO3 hb3
    refine hK.out _ _ (fun _ => hb3) ?_
    clear hK K
    have HO4 : Hid (OwnR (w3.alloc (.cells #[.int .i64 ms, .int .i64 mq] 24)) wd.heap.size a3 c3 rs) := HO3.out.alloc _
    have hb4 : Below wd.heap.size wd (w3.alloc (.cells #[.int .i64 ms, .int .i64 mq] 24)) := hb3.alloc hb3.size _
    have hs4 : wd.heap.size ≤ (w3.alloc (.cells #[.int .i64 ms, .int .i64 mq] 24)).heap.size := hb4.size
    refine one_L (i := 9) (by kernel_rfl) rfl (fun K hK => ?_)
    go_simp
    refine hK.out _ _ (fun _ => hb4) ?_
    clear hK K
    refine one_Lg (i := 10) (by kernel_rfl) rfl rfl (fun K hK => ?_)
    refine wp_append_rd _ _ rfl wd.heap.size a3 m c3 rs Hm.out rfl HO4.out ⟨w3.heap.size, 0, none⟩ (ms, mq) rfl (cell_two_new _ _ _ _) (by omega) wd hb4 hs4 ?_
    intro a5 c5 w5 HO5 hb5
    clear HO3 hb3 HO4 hb4 hs4
    refine hK.out _ _ (fun _ => hb5) ?_
    clear hK K
    have HO5' : Hid (OwnR w5 wd.heap.size a5 c5 (rs ++ [(ms, mq)])) := by show OwnR _ _ _ _ _; exact ownR_base HO5.out (Nat.le_refl _)
    have HRow5 : Hid (Row1 w5 g n L) := HRowd.out.on hb5
    have z0 : w5.cell? ⟨g, A, none⟩ = some (rgv L[A]) := HRow5.out.cell A hAl
    have z1 : w5.frozen? ⟨g, A, none⟩ = false := HRow5.out.free A
    generalize rgv L[A] = oldv at z0
    refine one_L (i := 11) (by kernel_rfl) rfl (fun K hK => ?_)
    go_simp
    refine hK.out _ _ (fun _ => hb5) ?_
    clear hK K
    refine one_L (i := 12) (by kernel_rfl) rfl (fun K hK => ?_)
    go_simp
    refine hK.out _ _ (fun _ => hb5) ?_
    clear hK K
    refine one_L (i := 13) (by kernel_rfl) rfl (fun K hK => ?_)
    go_simp
    refine hK.out _ _ (fun h => absurd rfl h) ?_
    clear hK K
    refine done_L (by kernel_rfl) ?_ _
    have Hb6 : Hid (Below w.heap.size w (w5.setCell ⟨g, A, none⟩ (.slice a5 (m + 1) c5))) := ((Hbd.out.trans (hb5.mono Hbd.out.size)).setCell (p := ⟨g, A, none⟩) (by show w.heap.size ≤ g; omega) _)
    have HG6 : Hid (RgAt (w5.setCell ⟨g, A, none⟩ (.slice a5 (m + 1) c5)) (some ⟨g, 0, none⟩) (L.set A ⟨a5, c5, L[A].r ++ [(ms, mq)]⟩)) := by
      refine HRow5.out.set (fun x hx => (HR.out.ok x hx).on Hb6.out) hAl ⟨a5, c5, L[A].r ++ [(ms, mq)]⟩ ⟨?_, ?_, ?_⟩ ?_
      · have := (HO5'.out.far (g := g) (j := A) (v := .slice a5 (m + 1) c5) HRowd.out.lt).rd Hi64.out
        rw [Hrs.out] at this
        exact this
      · exact fun e => absurd e (HO5'.out.some (by simp))
      · show (L[A].r ++ [(ms, mq)]).length ≤ _
        rw [← Hrs.out, List.length_append, Hm.out]
        show m + 1 ≤ _
        omega
      · show _ = Value.slice a5 (L[A].r ++ [(ms, mq)]).length c5
        rw [← Hrs.out, List.length_append, Hm.out]
        rfl
    have Hlad : Hid (lad (L.set A ⟨a5, c5, L[A].r ++ [(ms, mq)]⟩) = more (lad L) A (ms, mq)) := lad_more hAl a5 c5 (ms, mq)
    have Hn6 : Hid ((L.set A (⟨a5, c5, L[A].r ++ [(ms, mq)]⟩ : Rn)).length = n) := by show _ = _; rw [List.length_set]; exact Hn.out
    generalize w5.setCell ⟨g, A, none⟩ (.slice a5 (m + 1) c5) = w6 at *
    generalize L.set A (⟨a5, c5, L[A].r ++ [(ms, mq)]⟩ : Rn) = L2 at *
    clear HO5 HO5' HRow5 z0 z1 hb5 HRowd hHeld hne k0 k1 k2 Hrdc Hi64 Hrs
    have HR6 : Hid (RgAt w6 (some ⟨lb, lo, none⟩) L) := HR.out.on Hb6.out
    go_wp2_with fail
    refine (J.may_ (some ⟨lb, lo, none⟩) n c L w6 HR6.out Hn.out hmax).mono ?_
    rintro _ w7 ⟨rfl, hb7⟩
    have Hb7 : Hid (Below w6.heap.size w6 w7) := hb7
    clear hb7
    go_wp2_with fail
    refine (J.may_ (some ⟨g, 0, none⟩) n c2 L2 w7 (HG6.out.on Hb7.out) Hn6.out hmax).mono ?_
    rintro _ w8 ⟨rfl, hb8⟩
    have Hb8 : Hid (Below w6.heap.size w6 w8) := Hb7.out.trans (hb8.mono Hb7.out.size)
    clear hb8 Hb7
    have R8 := HP.out w8 (Hb6.out.trans (Hb8.out.mono Hb6.out.size))
    cases hm1 : mayB (lad L) with
    | false =>
      clear HP
      go_wp2
      exact R8
    | true =>
    cases hm2 : mayB (lad L2) with
    | false =>
      clear HP
      go_wp2
      exact R8
    | true =>
    clear R8
    have hlen : (lad L).length = n := by rw [lad_len]; exact Hn.out
    have hlen2 : (lad L2).length = n := by rw [lad_len]; exact Hn6.out
    have hn16 : n ≤ 16 := by have := (may_iff.1 hm1).f.n; rw [hlen] at this; exact this
    have Hle : Hid (∀ s, gt (radL (lad L) k) s ≤ gt (radL (lad L2) k) s) := fun s => by
      rw [Hlad.out] at hm2 ⊢
      exact rad_more hm1 hm2 (by omega) (by rw [hlen]; omega) s
    have Hl1 : Hid ((radL (lad L) k).length = n) := by show _ = _; rw [radL_length hm1 (by omega) (by rw [hlen]; omega), hlen]
    have Hl2 : Hid ((radL (lad L2) k).length = n) := by show _ = _; rw [radL_length hm2 (by omega) (by rw [hlen2]; omega), hlen2]
    have hcap : capS (radL (lad L) k) ≤ capS (radL (lad L2) k) := capS_le _ _ (by rw [Hl1.out, Hl2.out]) Hle.out
    have Hr1 : Hid (∀ w', Below w6.heap.size w6 w' → Calls Try.prog 6 #[.slice (some ⟨lb, lo, none⟩) n c, .int .i64 k] w' fun e w'' => Below w'.heap.size w' w'' ∧ ∃ a' c', e = .returned (.slice a' n c') ∧ IntsAt w'' a' (radL (lad L) k)) := fun w' hb => (J.radii_ (some ⟨lb, lo, none⟩) n c L k w' (HR6.out.on hb) Hn.out hmax Hk.out).mono (fun _ _ ⟨h1, a', c', h2, h3, _⟩ => ⟨h1, a', c', by rw [h2, Hl1.out], h3⟩)
    have Hr2 : Hid (∀ w', Below w6.heap.size w6 w' → Calls Try.prog 6 #[.slice (some ⟨g, 0, none⟩) n c2, .int .i64 k] w' fun e w'' => Below w'.heap.size w' w'' ∧ ∃ a' c', e = .returned (.slice a' n c') ∧ IntsAt w'' a' (radL (lad L2) k)) := fun w' hb => (J.radii_ (some ⟨g, 0, none⟩) n c2 L2 k w' (HG6.out.on hb) Hn6.out hmax Hk.out).mono (fun _ _ ⟨h1, a', c', h2, h3, _⟩ => ⟨h1, a', c', by rw [h2, Hl2.out], h3⟩)
    have Hc1 : Hid (∀ w', Below w6.heap.size w6 w' → Calls Try.prog 7 #[.slice (some ⟨lb, lo, none⟩) n c, .int .i64 k] w' fun e w'' => e = .returned (.int .i64 (capS (radL (lad L) k))) ∧ Below w'.heap.size w' w'') := fun w' hb => J.cap_ (some ⟨lb, lo, none⟩) n c L k w' (HR6.out.on hb) Hn.out hmax Hk.out
    have Hc2 : Hid (∀ w', Below w6.heap.size w6 w' → Calls Try.prog 7 #[.slice (some ⟨g, 0, none⟩) n c2, .int .i64 k] w' fun e w'' => e = .returned (.int .i64 (capS (radL (lad L2) k))) ∧ Below w'.heap.size w' w'') := fun w' hb => J.cap_ (some ⟨g, 0, none⟩) n c2 L2 k w' (HG6.out.on hb) Hn6.out hmax Hk.out
    generalize radL (lad L) k = rs1 at *
    generalize radL (lad L2) k = rs2 at *
    clear HR6 HG6 Hlad Hn6 hlen hlen2 hm1 hm2
    go_wp2_with fail
    refine (Hr1.out w8 Hb8.out).mono ?_
    rintro _ w9 ⟨hb9, p1, q1, rfl, hI9⟩
    have HI9 : Hid (IntsAt w9 p1 rs1) := hI9
    have Hb9 : Hid (Below w6.heap.size w6 w9) := Hb8.out.trans (hb9.mono Hb8.out.size)
    clear hb9 hI9 Hb8
    go_wp2_with fail
    refine (Hr2.out w9 Hb9.out).mono ?_
    rintro _ w10 ⟨hb10, p2, q2, rfl, hI10⟩
    have HI10 : Hid (IntsAt w10 p1 rs1) := HI9.out.on hb10
    have HJ10 : Hid (IntsAt w10 p2 rs2) := hI10
    have Hb10 : Hid (Below w6.heap.size w6 w10) := Hb9.out.trans (hb10.mono Hb9.out.size)
    clear hb10 hI10 Hb9 HI9 Hr1 Hr2
    have hcc : ¬ (n : Int) ≠ (n : Int) := by omega
    go_wp2_with fail
    go_loopw [15] (fun v wr => ∃ (i : Nat), i ≤ n ∧ v = .int .i64 (i : Int) ∧ Hid (Below w10.heap.size w10 wr)) (fun v _ => n - (intOf v).toNat)
    case atStart => exact ⟨0, Nat.zero_le _, by go_num, Below.refl _ _⟩
    case round =>
      obtain ⟨i, hi, rfl, HBe⟩ := hrel
      by_cases hlt : i < n
      · have hlt' : (i : Int) < (n : Int) := by omega
        have h1 : i < rs1.length := by rw [Hl1.out]; exact hlt
        have h2 : i < rs2.length := by rw [Hl2.out]; exact hlt
        obtain ⟨ab, ao, rfl, hac⟩ : ∃ b off, p1 = some ⟨b, off, none⟩ ∧ ∀ j (h : j < rs1.length), wr.cell? ⟨b, off + j, none⟩ = some (.int .i64 rs1[j]) := by
          rcases HI10.out.on HBe.out with h | h
          · rw [h] at h1; simp at h1
          · exact h
        obtain ⟨bb, bo, rfl, hbc⟩ : ∃ b off, p2 = some ⟨b, off, none⟩ ∧ ∀ j (h : j < rs2.length), wr.cell? ⟨b, off + j, none⟩ = some (.int .i64 rs2[j]) := by
          rcases HJ10.out.on HBe.out with h | h
          · rw [h] at h2; simp at h2
          · exact h
        have e0 := hac i h1
        have e1 := hbc i h2
        have hcmp : ¬ rs2[i] < rs1[i] := by
          have := Hle.out i
          unfold gt at this
          rw [List.getD_eq_getElem?_getD, List.getD_eq_getElem?_getD, List.getElem?_eq_getElem h1, List.getElem?_eq_getElem h2] at this
          exact Int.not_lt.2 this
        have d1 : decide (rs2[i] < rs1[i]) = false := decide_eq_false hcmp
        generalize rs1[i] = V1 at *
        generalize rs2[i] = V2 at *
        clear HP hac hbc
        go_wp2_with fail
        go_big_quiet (fail)
        have HB2 : Hid (Below w10.heap.size w10 (wr.drewN nq)) := below_drewN HBe.out nq
        go_wp2
        go_roundw
        case rel => exact ⟨i + 1, by omega, by go_num, HB2⟩
        case measure => simp [intOf]; omega
      · obtain rfl : i = n := by omega
        have hge : ¬ (i : Int) < (i : Int) := by omega
        have Hb11 : Hid (Below w6.heap.size w6 wr) := Hb10.out.trans (HBe.out.mono Hb10.out.size)
        clear HBe HI10 HJ10 Hb10
        go_wp2_with fail
        refine (Hc1.out wr Hb11.out).mono ?_
        rintro _ w12 ⟨rfl, hb12⟩
        have Hb12 : Hid (Below w6.heap.size w6 w12) := Hb11.out.trans (hb12.mono Hb11.out.size)
        clear hb12 Hb11
        go_wp2_with fail
        refine (Hc2.out w12 Hb12.out).mono ?_
        rintro _ w13 ⟨rfl, hb13⟩
        have Hb13 : Hid (Below w6.heap.size w6 w13) := Hb12.out.trans (hb13.mono Hb12.out.size)
        have R := HP.out w13 (Hb6.out.trans (Hb13.out.mono Hb6.out.size))
        clear HP hb13 Hb12 Hb13 Hc1 Hc2
        generalize capS rs1 = C1 at *
        generalize capS rs2 = C2 at *
        go_wp2
        exact R
  · have hb3 : Below wd.heap.size wd (wd.alloc (.cells #[.int .i64 ms, .int .i64 mq] 24)) := (Below.refl _ _).alloc (Nat.le_refl _) _
    have Hr3 : Hid (RdAt (wd.alloc (.cells #[.int .i64 ms, .int .i64 mq] 24)) ra rs) := Hrdc.out.on hb3
    have HN3 : Hid (∀ (j : Nat) (x : Value), [Value.int .i64 ms, Value.int .i64 mq][j]? = some x → (wd.alloc (.cells #[.int .i64 ms, .int .i64 mq] 24)).cell? (Addr.add ⟨wd.heap.size, 0, none⟩ j) = some x) := cell_two_new wd 24 (.int .i64 ms) (.int .i64 mq)
    have hs3 : wd.heap.size ≤ (wd.alloc (.cells #[.int .i64 ms, .int .i64 mq] 24)).heap.size := hb3.size
    go_simp
    refine hK.out _ _ (fun _ => hb3) ?_
    clear hK K
    generalize wd.alloc (.cells #[.int .i64 ms, .int .i64 mq] 24) = w3 at *
    refine one_Lg (i := 7) (by kernel_rfl) rfl rfl (fun K hK => ?_)
    refine wp_copy_rd _ rfl ra m rc rs Hm.out rfl Hr3.out Hlnil.out (by omega) w3.heap.size w3 (Below.refl _ _) (Nat.le_refl _) ?_
    intro a3 c3 w4 HO3 hb4
    have hb4' : Below wd.heap.size wd w4 := hb3.trans (hb4.mono hs3)
    refine hK.out _ _ (fun _ => hb4') ?_
    clear hK K
    have HN4 : Hid (∀ (j : Nat) (x : Value), (rdc (ms, mq))[j]? = some x → w4.cell? (Addr.add ⟨wd.heap.size, 0, none⟩ j) = some x) := fun j x hx => by
      have h0 := HN3.out j x hx
      exact (hb4.cell (World.block_lt_of_cell? w3 _ h0)).trans h0
    refine one_Lg (i := 10) (by kernel_rfl) rfl rfl (fun K hK => ?_)
    refine wp_append_rd _ _ rfl wd.heap.size a3 m c3 rs Hm.out rfl (ownR_base HO3.out hs3) ⟨wd.heap.size, 0, none⟩ (ms, mq) rfl HN4.out (by omega) wd hb4' hb4'.size ?_
    intro a5 c5 w5 HO5 hb5
    clear HO3 hb3 hb4 hb4' HN3 HN4 Hr3 hs3
    refine hK.out _ _ (fun _ => hb5) ?_
    clear hK K
    have HO5' : Hid (OwnR w5 wd.heap.size a5 c5 (rs ++ [(ms, mq)])) := by show OwnR _ _ _ _ _; exact ownR_base HO5.out (Nat.le_refl _)
    have HRow5 : Hid (Row1 w5 g n L) := HRowd.out.on hb5
    have z0 : w5.cell? ⟨g, A, none⟩ = some (rgv L[A]) := HRow5.out.cell A hAl
    have z1 : w5.frozen? ⟨g, A, none⟩ = false := HRow5.out.free A
    generalize rgv L[A] = oldv at z0
    refine one_L (i := 11) (by kernel_rfl) rfl (fun K hK => ?_)
    go_simp
    refine hK.out _ _ (fun _ => hb5) ?_
    clear hK K
    refine one_L (i := 12) (by kernel_rfl) rfl (fun K hK => ?_)
    go_simp
    refine hK.out _ _ (fun _ => hb5) ?_
    clear hK K
    refine one_L (i := 13) (by kernel_rfl) rfl (fun K hK => ?_)
    go_simp
    refine hK.out _ _ (fun h => absurd rfl h) ?_
    clear hK K
    refine done_L (by kernel_rfl) ?_ _
    have Hb6 : Hid (Below w.heap.size w (w5.setCell ⟨g, A, none⟩ (.slice a5 (m + 1) c5))) := ((Hbd.out.trans (hb5.mono Hbd.out.size)).setCell (p := ⟨g, A, none⟩) (by show w.heap.size ≤ g; omega) _)
    have HG6 : Hid (RgAt (w5.setCell ⟨g, A, none⟩ (.slice a5 (m + 1) c5)) (some ⟨g, 0, none⟩) (L.set A ⟨a5, c5, L[A].r ++ [(ms, mq)]⟩)) := by
      refine HRow5.out.set (fun x hx => (HR.out.ok x hx).on Hb6.out) hAl ⟨a5, c5, L[A].r ++ [(ms, mq)]⟩ ⟨?_, ?_, ?_⟩ ?_
      · have := (HO5'.out.far (g := g) (j := A) (v := .slice a5 (m + 1) c5) HRowd.out.lt).rd Hi64.out
        rw [Hrs.out] at this
        exact this
      · exact fun e => absurd e (HO5'.out.some (by simp))
      · show (L[A].r ++ [(ms, mq)]).length ≤ _
        rw [← Hrs.out, List.length_append, Hm.out]
        show m + 1 ≤ _
        omega
      · show _ = Value.slice a5 (L[A].r ++ [(ms, mq)]).length c5
        rw [← Hrs.out, List.length_append, Hm.out]
        rfl
    have Hlad : Hid (lad (L.set A ⟨a5, c5, L[A].r ++ [(ms, mq)]⟩) = more (lad L) A (ms, mq)) := lad_more hAl a5 c5 (ms, mq)
    have Hn6 : Hid ((L.set A (⟨a5, c5, L[A].r ++ [(ms, mq)]⟩ : Rn)).length = n) := by show _ = _; rw [List.length_set]; exact Hn.out
    generalize w5.setCell ⟨g, A, none⟩ (.slice a5 (m + 1) c5) = w6 at *
    generalize L.set A (⟨a5, c5, L[A].r ++ [(ms, mq)]⟩ : Rn) = L2 at *
    clear HO5 HO5' HRow5 z0 z1 hb5 HRowd hHeld hne k0 k1 k2 Hrdc Hi64 Hrs
    have HR6 : Hid (RgAt w6 (some ⟨lb, lo, none⟩) L) := HR.out.on Hb6.out
    go_wp2_with fail
    refine (J.may_ (some ⟨lb, lo, none⟩) n c L w6 HR6.out Hn.out hmax).mono ?_
    rintro _ w7 ⟨rfl, hb7⟩
    have Hb7 : Hid (Below w6.heap.size w6 w7) := hb7
    clear hb7
    go_wp2_with fail
    refine (J.may_ (some ⟨g, 0, none⟩) n c2 L2 w7 (HG6.out.on Hb7.out) Hn6.out hmax).mono ?_
    rintro _ w8 ⟨rfl, hb8⟩
    have Hb8 : Hid (Below w6.heap.size w6 w8) := Hb7.out.trans (hb8.mono Hb7.out.size)
    clear hb8 Hb7
    have R8 := HP.out w8 (Hb6.out.trans (Hb8.out.mono Hb6.out.size))
    cases hm1 : mayB (lad L) with
    | false =>
      clear HP
      go_wp2
      exact R8
    | true =>
    cases hm2 : mayB (lad L2) with
    | false =>
      clear HP
      go_wp2
      exact R8
    | true =>
    clear R8
    have hlen : (lad L).length = n := by rw [lad_len]; exact Hn.out
    have hlen2 : (lad L2).length = n := by rw [lad_len]; exact Hn6.out
    have hn16 : n ≤ 16 := by have := (may_iff.1 hm1).f.n; rw [hlen] at this; exact this
    have Hle : Hid (∀ s, gt (radL (lad L) k) s ≤ gt (radL (lad L2) k) s) := fun s => by
      rw [Hlad.out] at hm2 ⊢
      exact rad_more hm1 hm2 (by omega) (by rw [hlen]; omega) s
    have Hl1 : Hid ((radL (lad L) k).length = n) := by show _ = _; rw [radL_length hm1 (by omega) (by rw [hlen]; omega), hlen]
    have Hl2 : Hid ((radL (lad L2) k).length = n) := by show _ = _; rw [radL_length hm2 (by omega) (by rw [hlen2]; omega), hlen2]
    have hcap : capS (radL (lad L) k) ≤ capS (radL (lad L2) k) := capS_le _ _ (by rw [Hl1.out, Hl2.out]) Hle.out
    have Hr1 : Hid (∀ w', Below w6.heap.size w6 w' → Calls Try.prog 6 #[.slice (some ⟨lb, lo, none⟩) n c, .int .i64 k] w' fun e w'' => Below w'.heap.size w' w'' ∧ ∃ a' c', e = .returned (.slice a' n c') ∧ IntsAt w'' a' (radL (lad L) k)) := fun w' hb => (J.radii_ (some ⟨lb, lo, none⟩) n c L k w' (HR6.out.on hb) Hn.out hmax Hk.out).mono (fun _ _ ⟨h1, a', c', h2, h3, _⟩ => ⟨h1, a', c', by rw [h2, Hl1.out], h3⟩)
    have Hr2 : Hid (∀ w', Below w6.heap.size w6 w' → Calls Try.prog 6 #[.slice (some ⟨g, 0, none⟩) n c2, .int .i64 k] w' fun e w'' => Below w'.heap.size w' w'' ∧ ∃ a' c', e = .returned (.slice a' n c') ∧ IntsAt w'' a' (radL (lad L2) k)) := fun w' hb => (J.radii_ (some ⟨g, 0, none⟩) n c2 L2 k w' (HG6.out.on hb) Hn6.out hmax Hk.out).mono (fun _ _ ⟨h1, a', c', h2, h3, _⟩ => ⟨h1, a', c', by rw [h2, Hl2.out], h3⟩)
    have Hc1 : Hid (∀ w', Below w6.heap.size w6 w' → Calls Try.prog 7 #[.slice (some ⟨lb, lo, none⟩) n c, .int .i64 k] w' fun e w'' => e = .returned (.int .i64 (capS (radL (lad L) k))) ∧ Below w'.heap.size w' w'') := fun w' hb => J.cap_ (some ⟨lb, lo, none⟩) n c L k w' (HR6.out.on hb) Hn.out hmax Hk.out
    have Hc2 : Hid (∀ w', Below w6.heap.size w6 w' → Calls Try.prog 7 #[.slice (some ⟨g, 0, none⟩) n c2, .int .i64 k] w' fun e w'' => e = .returned (.int .i64 (capS (radL (lad L2) k))) ∧ Below w'.heap.size w' w'') := fun w' hb => J.cap_ (some ⟨g, 0, none⟩) n c2 L2 k w' (HG6.out.on hb) Hn6.out hmax Hk.out
    generalize radL (lad L) k = rs1 at *
    generalize radL (lad L2) k = rs2 at *
    clear HR6 HG6 Hlad Hn6 hlen hlen2 hm1 hm2
    go_wp2_with fail
    refine (Hr1.out w8 Hb8.out).mono ?_
    rintro _ w9 ⟨hb9, p1, q1, rfl, hI9⟩
    have HI9 : Hid (IntsAt w9 p1 rs1) := hI9
    have Hb9 : Hid (Below w6.heap.size w6 w9) := Hb8.out.trans (hb9.mono Hb8.out.size)
    clear hb9 hI9 Hb8
    go_wp2_with fail
    refine (Hr2.out w9 Hb9.out).mono ?_
    rintro _ w10 ⟨hb10, p2, q2, rfl, hI10⟩
    have HI10 : Hid (IntsAt w10 p1 rs1) := HI9.out.on hb10
    have HJ10 : Hid (IntsAt w10 p2 rs2) := hI10
    have Hb10 : Hid (Below w6.heap.size w6 w10) := Hb9.out.trans (hb10.mono Hb9.out.size)
    clear hb10 hI10 Hb9 HI9 Hr1 Hr2
    have hcc : ¬ (n : Int) ≠ (n : Int) := by omega
    go_wp2_with fail
    go_loopw [15] (fun v wr => ∃ (i : Nat), i ≤ n ∧ v = .int .i64 (i : Int) ∧ Hid (Below w10.heap.size w10 wr)) (fun v _ => n - (intOf v).toNat)
    case atStart => exact ⟨0, Nat.zero_le _, by go_num, Below.refl _ _⟩
    case round =>
      obtain ⟨i, hi, rfl, HBe⟩ := hrel
      by_cases hlt : i < n
      · have hlt' : (i : Int) < (n : Int) := by omega
        have h1 : i < rs1.length := by rw [Hl1.out]; exact hlt
        have h2 : i < rs2.length := by rw [Hl2.out]; exact hlt
        obtain ⟨ab, ao, rfl, hac⟩ : ∃ b off, p1 = some ⟨b, off, none⟩ ∧ ∀ j (h : j < rs1.length), wr.cell? ⟨b, off + j, none⟩ = some (.int .i64 rs1[j]) := by
          rcases HI10.out.on HBe.out with h | h
          · rw [h] at h1; simp at h1
          · exact h
        obtain ⟨bb, bo, rfl, hbc⟩ : ∃ b off, p2 = some ⟨b, off, none⟩ ∧ ∀ j (h : j < rs2.length), wr.cell? ⟨b, off + j, none⟩ = some (.int .i64 rs2[j]) := by
          rcases HJ10.out.on HBe.out with h | h
          · rw [h] at h2; simp at h2
          · exact h
        have e0 := hac i h1
        have e1 := hbc i h2
        have hcmp : ¬ rs2[i] < rs1[i] := by
          have := Hle.out i
          unfold gt at this
          rw [List.getD_eq_getElem?_getD, List.getD_eq_getElem?_getD, List.getElem?_eq_getElem h1, List.getElem?_eq_getElem h2] at this
          exact Int.not_lt.2 this
        have d1 : decide (rs2[i] < rs1[i]) = false := decide_eq_false hcmp
        generalize rs1[i] = V1 at *
        generalize rs2[i] = V2 at *
        clear HP hac hbc
        go_wp2_with fail
        go_big_quiet (fail)
        have HB2 : Hid (Below w10.heap.size w10 (wr.drewN nq)) := below_drewN HBe.out nq
        go_wp2
        go_roundw
        case rel => exact ⟨i + 1, by omega, by go_num, HB2⟩
        case measure => simp [intOf]; omega
      · obtain rfl : i = n := by omega
        have hge : ¬ (i : Int) < (i : Int) := by omega
        have Hb11 : Hid (Below w6.heap.size w6 wr) := Hb10.out.trans (HBe.out.mono Hb10.out.size)
        clear HBe HI10 HJ10 Hb10
        go_wp2_with fail
        refine (Hc1.out wr Hb11.out).mono ?_
        rintro _ w12 ⟨rfl, hb12⟩
        have Hb12 : Hid (Below w6.heap.size w6 w12) := Hb11.out.trans (hb12.mono Hb11.out.size)
        clear hb12 Hb11
        go_wp2_with fail
        refine (Hc2.out w12 Hb12.out).mono ?_
        rintro _ w13 ⟨rfl, hb13⟩
        have Hb13 : Hid (Below w6.heap.size w6 w13) := Hb12.out.trans (hb13.mono Hb12.out.size)
        have R := HP.out w13 (Hb6.out.trans (Hb13.out.mono Hb6.out.size))
        clear HP hb13 Hb12 Hb13 Hc1 Hc2
        generalize capS rs1 = C1 at *
        generalize capS rs2 = C2 at *
        go_wp2
        exact R
end Go.Proofs.Ytokjbjfpgjincab
