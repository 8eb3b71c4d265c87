/-
  LadderStays, walked over any ladder package that keeps what is asked.
-/
import Derived.Test.YtokjbjfpgjincaaLrows
set_option maxRecDepth 20000
namespace Go.Proofs.Ytokjbjfpgjincaa
open Go.RowKit

theorem IntsAt.front {w : World} {a : Option Addr} {xs ys : List Int} (h : IntsAt w a (xs ++ ys)) : IntsAt w a xs := by
  rcases h with h | ⟨b, off, e, hc⟩
  · exact .inl (List.append_eq_nil_iff.1 h).1
  · refine .inr ⟨b, off, e, fun j hj => ?_⟩
    have := hc j (by rw [List.length_append]; omega)
    rwa [List.getElem_append_left hj] at this
theorem more_cell (w2 : World) (ma : Option Addr) (mc mn : Nat) (ms : List Rd) (h : ms.length = mn) : (w2.alloc (.cells #[.slice ma mn mc] 43)).cell? ⟨w2.heap.size, 0, none⟩ = some (rgv ⟨ma, mc, ms⟩) := by
  rw [cell_of_row _ _ 0 _ 43 (0, 0) (heap_alloc_new w2 _)]
  show some (Value.slice ma mn mc) = some (Value.slice ma ms.length mc)
  rw [h]
set_option maxHeartbeats 2000000 in
theorem ladderStays_walk (J : LSpec) (a : Option Addr) (n c : Nat) (L : List Rn) (k : Int) (ma : Option Addr) (mn mc : Nat) (ms : List Rd) (w : World) (hR : RgAt w a L) (hn : L.length = n) (hnil : a = none → n = 0 ∧ c = 0) (hle : n * 24 ≤ 140737488351232) (hk : I64 k)
    (hM : RdAt w ma ms) (hmn : ms.length = mn) (hmnil : ma = none → mc = 0) (hmle : mn ≤ 8796093021952) :
    Calls Try.prog 8 #[.slice a n c, .int .i64 k, .slice ma mn mc] w fun e w' => e = .returned (.bool true) ∧ Below w.heap.size w w' := by
  obtain ⟨Post, hPost⟩ : ∃ Post : Ending → World → Prop, Post = fun e w' => e = .returned (.bool true) ∧ Below w.heap.size w w' := ⟨_, rfl⟩
  rw [← hPost]
  have HP : Hid (∀ w', Below w.heap.size w w' → Post (.returned (.bool true)) w') := fun w' h => by rw [hPost]; exact ⟨rfl, h⟩
  clear hPost
  have HR : Hid (RgAt w a L) := hR
  have Hk : Hid (I64 k) := hk
  have Hn : Hid (L.length = n) := hn
  have Hy : Hid (RnOk w ⟨ma, mc, ms⟩) := ⟨hM, hmnil, by show ms.length ≤ _; omega⟩
  have Hmn : Hid (ms.length = mn) := hmn
  have Hnil : Hid (a = none → n = 0 ∧ c = 0) := hnil
  have hmax : n ≤ maxLen := by unfold maxLen; omega
  have hmax1 : n + 1 ≤ maxLen := by unfold maxLen; omega
  obtain ⟨hk1, hk2⟩ := hk
  clear hR hn hM hmnil hmn hnil
  go_enter Try.func8, Try.ntmps8
  go_wp2_with fail
  refine (awake_c J w).mono ?_
  rintro _ w1 ⟨rfl, hb1⟩
  have Hb1 : Hid (Below w.heap.size w w1) := hb1
  clear hb1
  go_wp2_with (at_builtin; first
    | (refine wpList_copy_rg rfl _ rfl a n c L Hn.out rfl (HR.out.on Hb1.out) Hnil.out hle ?_; intro a2 c2 w2 HO2 hb2; have Hb2 : Hid (Below w1.heap.size w1 w2) := hb2; clear hb2; have HO3 : Hid (OwnG (w2.alloc (.cells #[.slice ma mn mc] 43)) w1.heap.size a2 c2 L) := HO2.out.alloc _; have Hb3 : Hid (Below w1.heap.size w1 (w2.alloc (.cells #[.slice ma mn mc] 43))) := Hb2.out.alloc Hb2.out.size _; have Hc3 : Hid ((w2.alloc (.cells #[.slice ma mn mc] 43)).cell? ⟨w2.heap.size, 0, none⟩ = some (rgv ⟨ma, mc, ms⟩)) := more_cell w2 ma mc mn ms Hmn.out; have Hs3 : Hid (w1.heap.size ≤ (w2.alloc (.cells #[.slice ma mn mc] 43)).heap.size) := Hb3.out.size)
    | (refine wpList_append_rg rfl _ _ rfl w1.heap.size a2 n c2 L Hn.out rfl HO3.out ⟨w2.heap.size, 0, none⟩ ⟨ma, mc, ms⟩ rfl Hc3.out hle w1 Hb3.out Hs3.out ?_; intro a4 c4 w4 HO4 hb4))
  have Hb4 : Hid (Below w.heap.size w w4) := Hb1.out.trans (hb4.mono Hb1.out.size)
  have HG4 : Hid (RgAt w4 a4 (L ++ [⟨ma, mc, ms⟩])) := HO4.out.rg (fun x hx => by
    rcases List.mem_append.1 hx with hx | hx
    · exact (HR.out.ok x hx).on Hb4.out
    · rw [List.mem_singleton.1 hx]; exact Hy.out.on Hb4.out)
  have HR4 : Hid (RgAt w4 a L) := HR.out.on Hb4.out
  have Hlad : Hid (lad (L ++ [⟨ma, mc, ms⟩]) = lad L ++ [ms]) := by show _ = _; simp [lad]
  have Hn1 : Hid ((L ++ [(⟨ma, mc, ms⟩ : Rn)]).length = n + 1) := by show _ = _; rw [List.length_append, Hn.out]; rfl
  clear hb4 HO4 HO3 Hb3 Hc3 Hs3 HO2 Hb2 Hb1 HR Hy Hmn Hnil
  generalize L ++ [(⟨ma, mc, ms⟩ : Rn)] = L2 at *
  refine (J.may_ a n c L w4 HR4.out Hn.out hmax).mono ?_
  rintro _ w5 ⟨rfl, hb5⟩
  have Hb5 : Hid (Below w4.heap.size w4 w5) := hb5
  clear hb5
  go_wp2_with fail
  refine (J.may_ a4 (n + 1) c4 L2 w5 (HG4.out.on Hb5.out) Hn1.out hmax1).mono ?_
  rintro _ w6 ⟨rfl, hb6⟩
  have Hb6 : Hid (Below w4.heap.size w4 w6) := Hb5.out.trans (hb6.mono Hb5.out.size)
  have He6 : Hid (Below w.heap.size w w6) := Hb4.out.trans (Hb6.out.mono Hb4.out.size)
  clear hb6 Hb5
  have R6 := HP.out w6 He6.out
  cases hm1 : mayB (lad L) with
  | false =>
    clear HP
    go_wp2
    exact R6
  | true =>
  cases hm2 : mayB (lad L2) with
  | false =>
    clear HP
    go_wp2
    exact R6
  | true =>
  by_cases g1 : k < 0
  · clear HP
    go_wp2
    exact R6
  by_cases g2 : (n : Int) ≤ k
  · clear HP
    go_wp2
    exact R6
  clear R6
  have hlen : (lad L).length = n := by rw [lad_len]; exact Hn.out
  have hn16 : n ≤ 16 := by have := (may_iff.1 hm1).f.n; rw [hlen] at this; exact this
  have Hra : Hid (radL (lad L2) k = radL (lad L) k ++ [-1]) := by
    show _ = _
    rw [Hlad.out] at hm2 ⊢
    exact rad_app hm1 hm2 (by omega) (by rw [hlen]; omega)
  have Hrl : Hid ((radL (lad L) k).length = n) := by show _ = _; rw [radL_length hm1 (by omega) (by rw [hlen]; omega), hlen]
  have Hr1 : Hid (∀ w', Below w4.heap.size w4 w' → Calls Try.prog 14 #[.slice a n c, .int .i64 k] w' fun e w'' => Below w'.heap.size w' w'' ∧ ∃ a' c', e = .returned (.slice a' n c') ∧ IntsAt w'' a' (radL (lad L) k)) := fun w' hb => (J.radii_ a n c L k w' (HR4.out.on hb) Hn.out hmax Hk.out).mono (fun _ _ ⟨h1, a', c', h2, h3, _⟩ => ⟨h1, a', c', by rw [h2, Hrl.out], h3⟩)
  have Hr2 : Hid (∀ w', Below w4.heap.size w4 w' → Calls Try.prog 14 #[.slice a4 (n + 1) c4, .int .i64 k] w' fun e w'' => Below w'.heap.size w' w'' ∧ ∃ a' c', e = .returned (.slice a' (n + 1) c') ∧ IntsAt w'' a' (radL (lad L) k ++ [-1]) ∧ n + 1 ≤ c') := fun w' hb => (J.radii_ a4 (n + 1) c4 L2 k w' (HG4.out.on hb) Hn1.out hmax1 Hk.out).mono (fun _ _ ⟨h1, a', c', h2, h3, h4⟩ => by
    have e : (radL (lad L2) k).length = n + 1 := by rw [Hra.out, List.length_append, Hrl.out]; rfl
    rw [e] at h2 h4
    rw [Hra.out] at h3
    exact ⟨h1, a', c', h2, h3, h4⟩)
  have Hc1 : Hid (∀ w', Below w4.heap.size w4 w' → Calls Try.prog 15 #[.slice a n c, .int .i64 k] w' fun e w'' => e = .returned (.int .i64 (capS (radL (lad L) k))) ∧ Below w'.heap.size w' w'') := fun w' hb => J.cap_ a n c L k w' (HR4.out.on hb) Hn.out hmax Hk.out
  have Hc2 : Hid (∀ w', Below w4.heap.size w4 w' → Calls Try.prog 15 #[.slice a4 (n + 1) c4, .int .i64 k] w' fun e w'' => e = .returned (.int .i64 (capS (radL (lad L) k))) ∧ Below w'.heap.size w' w'') := fun w' hb => (J.cap_ a4 (n + 1) c4 L2 k w' (HG4.out.on hb) Hn1.out hmax1 Hk.out).mono (fun _ _ ⟨h1, h2⟩ => ⟨by rw [h1, Hra.out, capS_snoc]; show Ending.returned (.int .i64 (capS (radL (lad L) k) + 0)) = _; rw [Int.add_zero], h2⟩)
  generalize radL (lad L) k = rs at *
  clear Hra Hlad HR4 HG4 Hn1 hlen hm1 hm2
  go_wp2_with fail
  refine (Hr1.out w6 Hb6.out).mono ?_
  rintro _ w7 ⟨hb7, ra, rc, rfl, hI7⟩
  have HI7 : Hid (IntsAt w7 ra rs) := hI7
  have Hb7 : Hid (Below w4.heap.size w4 w7) := Hb6.out.trans (hb7.mono Hb6.out.size)
  clear hb7 hI7 Hb6 He6
  go_wp2_with fail
  refine (Hr2.out w7 Hb7.out).mono ?_
  rintro _ w8 ⟨hb8, ra2, rc2, rfl, hI8, hcap⟩
  have HI8 : Hid (IntsAt w8 ra rs) := HI7.out.on hb8
  have HI9 : Hid (IntsAt w8 ra2 (rs ++ [-1])) := hI8
  have Hb8 : Hid (Below w4.heap.size w4 w8) := Hb7.out.trans (hb8.mono Hb7.out.size)
  clear hb8 hI8 HI7 Hb7 Hr1 Hr2
  obtain ⟨b2, o2, rfl, hc9⟩ : ∃ b off, ra2 = some ⟨b, off, none⟩ ∧ w8.cell? ⟨b, off + n, none⟩ = some (.int .i64 (-1)) := by
    rcases HI9.out with h | ⟨b, off, e, h⟩
    · exact absurd (congrArg List.length h) (by simp)
    · refine ⟨b, off, e, ?_⟩
      have := h n (by rw [List.length_append, Hrl.out]; simp)
      rw [this, List.getElem_append_right (by rw [Hrl.out]; exact Nat.le_refl _)]
      simp
  have hw1 : IntKind.i64.wrap ((n : Int) + 1) = (n : Int) + 1 := by rw [IntKind.wrap_i64]; omega
  have hlt1 : (n : Int) < ((n + 1 : Nat) : Int) := by omega
  have hlt2 : (n : Int) < (n : Int) + 1 := by omega
  have hcap' : (n : Int) ≤ (rc2 : Int) := by omega
  have hcap2 : n ≤ rc2 := by omega
  go_wp2_with fail
  refine (numbers_c ra (some ⟨b2, o2, none⟩) n rc rc2 rs w8 HI8.out HI9.out.front Hrl.out (by omega)).mono ?_
  rintro _ w9 ⟨rfl, hb9⟩
  have Hb9 : Hid (Below w4.heap.size w4 w9) := Hb8.out.trans (hb9.mono Hb8.out.size)
  clear hb9 Hb8 HI8 HI9 hc9
  go_wp2_with fail
  refine (Hc1.out w9 Hb9.out).mono ?_
  rintro _ w10 ⟨rfl, hb10⟩
  have Hb10 : Hid (Below w4.heap.size w4 w10) := Hb9.out.trans (hb10.mono Hb9.out.size)
  clear hb10 Hb9
  go_wp2_with fail
  refine (Hc2.out w10 Hb10.out).mono ?_
  rintro _ w11 ⟨rfl, hb11⟩
  have Hb11 : Hid (Below w4.heap.size w4 w11) := Hb10.out.trans (hb11.mono Hb10.out.size)
  have R := HP.out w11 (Hb4.out.trans (Hb11.out.mono Hb4.out.size))
  clear HP hb11 Hb10 Hb11 Hc1 Hc2
  generalize capS rs = C at *
  go_wp2
  exact R
end Go.Proofs.Ytokjbjfpgjincaa
