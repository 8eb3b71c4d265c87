/-
  The ladder's mayRead, May, has, Radii and Cap.
-/
import Derived.Test.YtokjbjfpgjincaaPspr
import Derived.Test.YtokjbjfpgjincaaLmays
set_option maxRecDepth 20000
namespace Go.Proofs.Ytokjbjfpgjincaa
open Go.RowKit

def rowB (i : Nat) (rs : List Rd) : Bool := decide (rs.length ≤ 16) && rs.all (readB i)
theorem rowB_iff {i : Nat} {rs : List Rd} : rowB i rs = true ↔ rs.length ≤ 16 ∧ ∀ x ∈ rs, readOk i x := by
  unfold rowB
  rw [Bool.and_eq_true, decide_eq_true_iff, List.all_eq_true]
  unfold readB readOk
  simp only [decide_eq_true_iff]
theorem rowB_no {i : Nat} {rs : List Rd} (h : ¬ (rs.length ≤ 16 ∧ ∀ x ∈ rs, readOk i x)) : rowB i rs = false := by
  rw [Bool.eq_false_iff]
  exact fun hf => h (rowB_iff.1 hf)
theorem form_rows {l : Lad} (h16 : l.length ≤ 16) (h : ∀ i, i < l.length → rowB i (l.getD i []) = true) : Formed l := by
  refine form_iff.1 ?_
  show (decide (l.length ≤ 16) && (List.range l.length).all fun i => rowB i (l.getD i [])) = true
  rw [Bool.and_eq_true, decide_eq_true_iff, List.all_eq_true]
  exact ⟨h16, fun i hi => h i (List.mem_range.1 hi)⟩
theorem form_row_bad {l : Lad} {i : Nat} (hi : i < l.length) (h : rowB i (l.getD i []) = false) : mayB l = false := by
  rw [Bool.eq_false_iff]
  intro hf
  have hF := (may_iff.1 hf).f
  have : rowB i (l.getD i []) = true := rowB_iff.2 ⟨hF.m _ (getD_mem hi), fun x hx => hF.ok i x hx⟩
  rw [h] at this
  cases this
set_option maxHeartbeats 1000000 in
theorem mayRead_c (ra : Option Addr) (m rc : Nat) (rs : List Rd) (i : Nat) (w : World) (hrd : RdAt w ra rs) (hm : m = rs.length) (hsz : m ≤ 8796093022208) :
    Calls Try.prog 23 #[.agg #[.slice ra m rc], .int .i64 (i : Int)] w fun e w' => e = .returned (.bool (rowB i rs)) ∧ Below w.heap.size w w' := by
  obtain ⟨Post, hPost⟩ : ∃ Post : Ending → World → Prop, Post = fun e w' => e = .returned (.bool (rowB i rs)) ∧ Below w.heap.size w w' := ⟨_, rfl⟩
  rw [← hPost]
  have HP : Hid (∀ b w', rowB i rs = b → Below w.heap.size w w' → Post (.returned (.bool b)) w') := fun b w' h1 h2 => by rw [hPost]; exact ⟨by rw [h1], h2⟩
  clear hPost
  have Hm : Hid (m = rs.length) := hm
  have Hb0 : Hid (Below w.heap.size w (w.alloc (.cells #[.slice ra m rc] 43))) := (Below.refl _ _).alloc (Nat.le_refl _) _
  have HX0 : Hid ((w.alloc (.cells #[.slice ra m rc] 43)).heap[w.heap.size]? = some (.cells #[.slice ra m rc] 43 (0, 0))) := heap_alloc_new w _
  have Hrd : Hid (RdAt (w.alloc (.cells #[.slice ra m rc] 43)) ra rs) := hrd.on Hb0.out
  have y0 : (w.alloc (.cells #[.slice ra m rc] 43)).cell? ⟨w.heap.size, 0, none⟩ = some (.slice ra m rc) := (cell_of_row _ _ 0 _ 43 (0, 0) HX0.out).trans rfl
  clear hrd hm
  by_cases hm16 : m ≤ 16
  · have hm16' : ¬ (16 : Int) < (m : Int) := by omega
    go_enter Try.func23, Try.ntmps23
    go_wp2_with fail
    generalize w.alloc (.cells #[.slice ra m rc] 43) = w0 at *
    clear HX0 y0
    go_loopw [15] (fun v wr => ∃ (j : Nat), j ≤ m ∧ v = .int .i64 (j : Int) ∧ Hid (Below w0.heap.size w0 wr) ∧ Hid (∀ x ∈ rs.take j, readOk i x)) (fun v _ => m - (intOf v).toNat)
    case atStart => exact ⟨0, Nat.zero_le _, by go_num, Below.refl _ _, fun x hx => by simp at hx⟩
    case round =>
      obtain ⟨j, hj, rfl, HBq, HJ⟩ := hrel
      by_cases hjm : j < m
      · have hjm' : (j : Int) < (m : Int) := by omega
        have hjl : j < rs.length := by rw [← Hm.out]; exact hjm
        obtain ⟨rb, ro, rfl, hx⟩ := (Hrd.out.on HBq.out) j hjl
        have x0 := hx.c0
        have x1 := hx.c1
        obtain ⟨i0a, i0b⟩ := hx.i0
        obtain ⟨i1a, i1b⟩ := hx.i1
        have Hno : Hid (¬ readOk i rs[j] → rowB i rs = false) := fun h => rowB_no (fun hh => h (hh.2 _ (List.getElem_mem hjl)))
        have Hyes : Hid (readOk i rs[j] → ∀ x ∈ rs.take (j + 1), readOk i x) := fun h x hx => by
          rw [List.take_succ_eq_append_getElem hjl] at hx
          rcases List.mem_append.1 hx with hx | hx
          · exact HJ.out x hx
          · rw [List.mem_singleton.1 hx]; exact h
        clear hx
        obtain ⟨⟨s, q⟩, hsq⟩ : ∃ x, rs[j] = x := ⟨_, rfl⟩
        rw [hsq] at x0 x1 i0a i0b i1a i1b Hno Hyes
        simp only at x0 x1 i0a i0b i1a i1b
        clear hsq
        have Hb2 : Hid (Below w0.heap.size w0 (wr.alloc (.cells #[.int .i64 s, .int .i64 q] 45))) := HBq.out.alloc HBq.out.size _
        have Hb3 : Hid (Below w.heap.size w (wr.alloc (.cells #[.int .i64 s, .int .i64 q] 45))) := Hb0.out.trans (Hb2.out.mono Hb0.out.size)
        have HNo : Hid (¬ readOk i (s, q) → Post (.returned (.bool false)) (wr.alloc (.cells #[.int .i64 s, .int .i64 q] 45))) := fun h => HP.out false _ (Hno.out h) Hb3.out
        clear HP Hno Hb3 HBq HJ
        by_cases d1 : 0 ≤ s
        · by_cases d2 : s < (i : Int)
          · by_cases d3 : q < 0
            · have R := HNo.out (fun h => by have := h.2.2.1; simp only at this; omega)
              clear HNo Hyes
              go_wp2
              exact R
            · by_cases d4 : 8 < q
              · have R := HNo.out (fun h => by have := h.2.2.2; simp only at this; omega)
                clear HNo Hyes
                go_wp2
                exact R
              · have HJ2 : Hid (∀ x ∈ rs.take (j + 1), readOk i x) := Hyes.out ⟨by simp only; omega, by simp only; omega, by simp only; omega, by simp only; omega⟩
                clear HNo Hyes
                go_wp2
                go_roundw
                case rel => exact ⟨j + 1, by omega, by go_num, Hb2, HJ2⟩
                case measure => simp [intOf]; omega
          · have R := HNo.out (fun h => by have := h.2.1; simp only at this; omega)
            clear HNo Hyes
            go_wp2
            exact R
        · have R := HNo.out (fun h => by have := h.1; simp only at this; omega)
          clear HNo Hyes
          go_wp2
          exact R
      · obtain rfl : j = m := by omega
        have hge : ¬ (j : Int) < (j : Int) := by omega
        have R := HP.out true wr (rowB_iff.2 ⟨by rw [← Hm.out]; exact hm16, fun x hx => HJ.out x (by rwa [List.take_of_length_le (by rw [← Hm.out]; exact Nat.le_refl _)])⟩) (Hb0.out.trans (HBq.out.mono Hb0.out.size))
        clear HP HJ HBq
        go_wp2
        exact R
  · have hm16' : (16 : Int) < (m : Int) := by omega
    have R := HP.out false _ (rowB_no (fun h => hm16 (by rw [Hm.out]; exact h.1))) Hb0.out
    clear HP
    go_enter Try.func23, Try.ntmps23
    go_wp2
    exact R
set_option maxHeartbeats 1000000 in
theorem may_c (a : Option Addr) (n c : Nat) (L : List Rn) (w : World) (hR : RgAt w a L) (hn : L.length = n) (hle : n ≤ maxLen) :
    Calls Try.prog 10 #[.slice a n c] w fun e w' => e = .returned (.bool (mayB (lad L))) ∧ Below w.heap.size w w' := by
  obtain ⟨Post, hPost⟩ : ∃ Post : Ending → World → Prop, Post = fun e w' => e = .returned (.bool (mayB (lad L))) ∧ Below w.heap.size w w' := ⟨_, rfl⟩
  rw [← hPost]
  have HP : Hid (∀ b w', mayB (lad L) = b → Below w.heap.size w w' → Post (.returned (.bool b)) w') := fun b w' h1 h2 => by rw [hPost]; exact ⟨by rw [h1], h2⟩
  clear hPost
  have HR : Hid (RgAt w a L) := hR
  have Hn : Hid (L.length = n) := hn
  clear hR hn
  by_cases h16 : n ≤ 16
  · have h16' : ¬ (16 : Int) < (n : Int) := by omega
    go_enter Try.func10, Try.ntmps10
    go_wp2_with fail
    go_loopw [13] (fun v wr => ∃ (i : Nat), i ≤ n ∧ v = .int .i64 (i : Int) ∧ Hid (Below w.heap.size w wr) ∧ Hid (∀ j, j < i → rowB j ((lad L).getD j []) = true)) (fun v _ => n - (intOf v).toNat)
    case atStart => exact ⟨0, Nat.zero_le _, by go_num, Below.refl _ _, fun j hj => by omega⟩
    case round =>
      obtain ⟨i, hi, rfl, HBe, HK⟩ := hrel
      by_cases hlt : i < n
      · have hlt' : (i : Int) < (n : Int) := by omega
        have hil : i < L.length := by rw [Hn.out]; exact hlt
        obtain ⟨b, off, rfl, hin⟩ := (HR.out.on HBe.out) i hil
        have c0 := hin.c0
        have Hrd : Hid (RdAt wr L[i].a L[i].r) := hin.rd
        have Hat : Hid ((lad L).getD i [] = L[i].r) := lad_at L i hil
        have hsz := hin.sz
        clear hin
        generalize L[i].a = ra at *
        generalize L[i].c = rc at *
        generalize L[i].r = rs at *
        obtain ⟨m, hm⟩ : ∃ m, m = rs.length := ⟨_, rfl⟩
        rw [← hm] at c0 hsz
        have Hm : Hid (m = rs.length) := hm
        clear hm
        have hb2 : Below wr.heap.size wr (wr.alloc (.cells #[.slice ra m rc] 43)) := (Below.refl _ _).alloc (Nat.le_refl _) _
        have Hrd2 : Hid (RdAt (wr.alloc (.cells #[.slice ra m rc] 43)) ra rs) := Hrd.out.on hb2
        have Hb2 : Hid (Below w.heap.size w (wr.alloc (.cells #[.slice ra m rc] 43))) := HBe.out.alloc HBe.out.size _
        have y0 : (wr.alloc (.cells #[.slice ra m rc] 43)).cell? ⟨wr.heap.size, 0, none⟩ = some (.slice ra m rc) := (cell_of_row _ _ 0 _ 43 (0, 0) (heap_alloc_new wr _)).trans rfl
        have HKn : Hid (rowB i rs = true → ∀ j, j < i + 1 → rowB j ((lad L).getD j []) = true) := fun h j hj => by
          by_cases e : j = i
          · subst e; rw [Hat.out]; exact h
          · exact HK.out j (by omega)
        have Hbad : Hid (rowB i rs = false → mayB (lad L) = false) := fun h => form_row_bad (i := i) (by rw [lad_len]; exact hil) (by rw [Hat.out]; exact h)
        clear Hrd HBe HK hb2
        go_wp2_with fail
        generalize wr.alloc (.cells #[.slice ra m rc] 43) = w1 at *
        refine (mayRead_c ra m rc rs i w1 Hrd2.out Hm.out hsz).mono ?_
        rintro _ w2 ⟨rfl, hb3⟩
        have Hb3 : Hid (Below w.heap.size w w2) := Hb2.out.trans (hb3.mono Hb2.out.size)
        clear hb3 Hb2 Hrd2 y0 c0
        cases hB : rowB i rs with
        | false =>
          have R := HP.out false w2 (Hbad.out hB) Hb3.out
          clear HP Hbad HKn hB
          go_wp2
          exact R
        | true =>
          have HK2 : Hid (∀ j, j < i + 1 → rowB j ((lad L).getD j []) = true) := HKn.out hB
          clear HP Hbad HKn hB
          go_wp2
          go_roundw
          case rel => exact ⟨i + 1, by omega, by go_num, Hb3, HK2⟩
          case measure => simp [intOf]; omega
      · obtain rfl : i = n := by omega
        have hge : ¬ (i : Int) < (i : Int) := by omega
        have HF : Hid (Formed (lad L)) := form_rows (by rw [lad_len, Hn.out]; exact h16) (fun j hj => HK.out j (by rw [lad_len, Hn.out] at hj; exact hj))
        clear HK
        obtain ⟨wq, hwq⟩ : ∃ wq, wq = wr := ⟨_, rfl⟩
        subst hwq
        go_wp2_with fail
        go_loopw [25] (fun v wr => ∃ (k : Nat), k ≤ i ∧ v = .int .i64 (k : Int) ∧ Hid (Below w.heap.size w wr) ∧ Hid (∀ j, j < k → ∀ v ∈ spreadL (lad L) j, v ≤ 8)) (fun v _ => i - (intOf v).toNat)
        case atStart => exact ⟨0, Nat.zero_le _, by go_num, HBe, fun j hj => by omega⟩
        case round =>
          clear HBe
          obtain ⟨k, hk, rfl, HBe, HK⟩ := hrel
          by_cases hkn : k < i
          · have hkn' : (k : Int) < (i : Int) := by omega
            go_wp2_with fail
            refine (spread_c a i c L k wr (HR.out.on HBe.out) Hn.out HF.out hkn).mono ?_
            rintro _ w2 ⟨nr, rfl, hb2, hy, hno⟩
            have Hb2 : Hid (Below w.heap.size w w2) := HBe.out.trans (hb2.mono HBe.out.size)
            cases nr with
            | false =>
              have R := HP.out false w2 (may_far (by rw [lad_len, Hn.out]; exact hkn) (hno rfl)) Hb2.out
              clear HP hy hno hb2 HBe HK
              go_wp2
              exact R
            | true =>
              have HK2 : Hid (∀ j, j < k + 1 → ∀ v ∈ spreadL (lad L) j, v ≤ 8) := fun j hj => by
                by_cases e : j = k
                · subst e; exact (hy rfl).2
                · exact HK.out j (by omega)
              clear HP hy hno hb2 HBe HK
              go_wp2
              go_roundw
              case rel => exact ⟨k + 1, by omega, by go_num, Hb2, HK2⟩
              case measure => simp [intOf]; omega
          · obtain rfl : k = i := by omega
            have R := HP.out true wr (may_iff.2 ⟨HF.out, fun j hj => HK.out j (by rw [lad_len, Hn.out] at hj; exact hj)⟩) HBe.out
            clear HP HBe HK
            go_wp2
            exact R
  · have h16' : (16 : Int) < (n : Int) := by omega
    have R := HP.out false w (by rw [Bool.eq_false_iff]; exact fun hf => h16 (by have := (may_iff.1 hf).f.n; rw [lad_len, Hn.out] at this; exact this)) (Below.refl _ _)
    clear HP
    go_enter Try.func10, Try.ntmps10
    go_wp2
    exact R
theorem has_c (a : Option Addr) (n c : Nat) (L : List Rn) (k : Int) (w : World) (hR : RgAt w a L) (hn : L.length = n) (hle : n ≤ maxLen) (_hk : I64 k) :
    Calls Try.prog 27 #[.slice a n c, .int .i64 k] w fun e w' => e = .returned (.bool (stB (lad L) k)) ∧ Below w.heap.size w w' := by
  obtain ⟨Post, hPost⟩ : ∃ Post : Ending → World → Prop, Post = fun e w' => e = .returned (.bool (stB (lad L) k)) ∧ Below w.heap.size w w' := ⟨_, rfl⟩
  rw [← hPost]
  have HP : Hid (∀ b w', stB (lad L) k = b → Below w.heap.size w w' → Post (.returned (.bool b)) w') := fun b w' h1 h2 => by rw [hPost]; exact ⟨by rw [h1], h2⟩
  clear hPost
  have HR : Hid (RgAt w a L) := hR
  have Hn : Hid (L.length = n) := hn
  clear hR hn
  by_cases h0 : 0 ≤ k
  · by_cases h1 : k < (n : Int)
    · go_enter Try.func27, Try.ntmps27
      go_wp2_with fail
      refine (may_c a n c L w HR.out Hn.out hle).mono ?_
      rintro _ w1 ⟨rfl, hb1⟩
      have R := HP.out (mayB (lad L)) w1 (by unfold stB; rw [decide_eq_true (by rw [lad_len, Hn.out]; exact ⟨h0, h1⟩), Bool.and_true]) hb1
      clear HP hb1
      generalize mayB (lad L) = mb at *
      go_wp2
      exact R
    · have R := HP.out false w (by unfold stB; rw [decide_eq_false (by rw [lad_len, Hn.out]; omega), Bool.and_false]) (Below.refl _ _)
      clear HP
      go_enter Try.func27, Try.ntmps27
      go_wp2
      exact R
  · have R := HP.out false w (by unfold stB; rw [decide_eq_false (by omega), Bool.and_false]) (Below.refl _ _)
    clear HP
    go_enter Try.func27, Try.ntmps27
    go_wp2
    exact R
theorem radii_c (a : Option Addr) (n c : Nat) (L : List Rn) (k : Int) (w : World) (hR : RgAt w a L) (hn : L.length = n) (hle : n ≤ maxLen) (hk : I64 k) :
    Calls Try.prog 14 #[.slice a n c, .int .i64 k] w fun e w' => Below w.heap.size w w' ∧ ∃ a' c', e = .returned (.slice a' (radL (lad L) k).length c') ∧ IntsAt w' a' (radL (lad L) k) ∧ (radL (lad L) k).length ≤ c' := by
  obtain ⟨Post, hPost⟩ : ∃ Post : Ending → World → Prop, Post = fun e w' => Below w.heap.size w w' ∧ ∃ a' c', e = .returned (.slice a' (radL (lad L) k).length c') ∧ IntsAt w' a' (radL (lad L) k) ∧ (radL (lad L) k).length ≤ c' := ⟨_, rfl⟩
  rw [← hPost]
  have HP : Hid (∀ a' c' m w', m = (radL (lad L) k).length → Below w.heap.size w w' → IntsAt w' a' (radL (lad L) k) → m ≤ c' → Post (.returned (.slice a' m c')) w') := fun a' c' m w' h1 h2 h3 h4 => by rw [hPost]; subst h1; exact ⟨h2, a', c', rfl, h3, h4⟩
  clear hPost
  have HR : Hid (RgAt w a L) := hR
  have Hn : Hid (L.length = n) := hn
  clear hR hn
  go_enter Try.func14, Try.ntmps14
  go_wp2_with fail
  refine (has_c a n c L k w HR.out Hn.out hle hk).mono ?_
  rintro _ w1 ⟨rfl, hb1⟩
  cases hst : stB (lad L) k with
  | false =>
    have e : radL (lad L) k = [] := by unfold radL; rw [hst]; rfl
    have R := HP.out none 0 0 w1 (by rw [e]; rfl) hb1 (.inl e) (by omega)
    clear HP e hst
    go_wp2
    exact R
  | true =>
    obtain ⟨hM, h0, h1⟩ := st_iff.1 hst
    rw [lad_len, Hn.out] at h1
    obtain ⟨K, rfl⟩ := Int.eq_ofNat_of_zero_le h0
    have hKn : K < n := by omega
    have e : radL (lad L) (K : Int) = spreadL (lad L) K := by unfold radL; rw [if_pos hst]; rfl
    have hlen : (radL (lad L) (K : Int)).length = n := by rw [e, spreadL_len, lad_len, Hn.out]
    have HF : Hid (Formed (lad L)) := hM.f
    have Hle : Hid (∀ v ∈ spreadL (lad L) K, v ≤ 8) := hM.le K (by rw [lad_len, Hn.out]; exact hKn)
    have Hlen : Hid ((radL (lad L) (K : Int)).length = n) := hlen
    have He : Hid (radL (lad L) (K : Int) = spreadL (lad L) K) := e
    clear hlen e hst hM
    go_wp2_with fail
    refine (spread_c a n c L K w1 (HR.out.on hb1) Hn.out HF.out hKn).mono ?_
    rintro _ w2 ⟨nr, rfl, hb2, hy, hno⟩
    have hnr : nr = true := by
      cases nr with
      | true => rfl
      | false =>
        obtain ⟨v, hv, h8⟩ := hno rfl
        have := Hle.out v hv
        omega
    subst hnr
    have R := HP.out (some ⟨w1.heap.size, 0, none⟩) n n w2 Hlen.out.symm (hb1.trans (hb2.mono hb1.size)) (by rw [He.out]; exact (hy rfl).1.ints) (Nat.le_refl _)
    clear HP hy hno hb2 hb1
    go_wp2
    exact R
set_option maxHeartbeats 1000000 in
theorem cap_c (a : Option Addr) (n c : Nat) (L : List Rn) (k : Int) (w : World) (hR : RgAt w a L) (hn : L.length = n) (hle : n ≤ maxLen) (hk : I64 k) :
    Calls Try.prog 15 #[.slice a n c, .int .i64 k] w fun e w' => e = .returned (.int .i64 (capS (radL (lad L) k))) ∧ Below w.heap.size w w' := by
  obtain ⟨Post, hPost⟩ : ∃ Post : Ending → World → Prop, Post = fun e w' => e = .returned (.int .i64 (capS (radL (lad L) k))) ∧ Below w.heap.size w w' := ⟨_, rfl⟩
  rw [← hPost]
  have HP : Hid (∀ w', Below w.heap.size w w' → Post (.returned (.int .i64 (capS (radL (lad L) k)))) w') := fun w' h => by rw [hPost]; exact ⟨rfl, h⟩
  clear hPost
  have Hrng : Hid (∀ v ∈ radL (lad L) k, -1 ≤ v ∧ v ≤ 8) := fun v hv => radL_rng hv
  have h16 : (radL (lad L) k).length ≤ 16 := by
    unfold radL
    split
    · rename_i h
      rw [spreadL_len]
      exact (st_iff.1 h).1.f.n
    · simp
  go_enter Try.func15, Try.ntmps15
  go_wp2_with fail
  refine (radii_c a n c L k w hR hn hle hk).mono ?_
  rintro _ w2 ⟨hb2, ra, rc, rfl, hI2, _⟩
  have HI2 : Hid (IntsAt w2 ra (radL (lad L) k)) := hI2
  have Hb2 : Hid (Below w.heap.size w w2) := hb2
  generalize radL (lad L) k = rs at *
  obtain ⟨m, hm⟩ : ∃ m, m = rs.length := ⟨_, rfl⟩
  have Hm : Hid (m = rs.length) := hm
  rw [← hm] at h16 ⊢
  clear hm hb2 hI2 hR hn
  go_wp2_with fail
  go_loopw [5, 12] (fun v y wr => ∃ (i : Nat), i ≤ m ∧ y = .int .i64 (i : Int) ∧ v = .int .i64 (capS (rs.take i)) ∧ wr = w2) (fun _ y _ => m - (intOf y).toNat)
  case atStart => exact ⟨0, Nat.zero_le _, by go_num, by simp [capS], rfl⟩
  case round =>
    obtain ⟨i, hi, rfl, rfl, rfl⟩ := hrel
    have hcb : 0 ≤ capS (rs.take i) ∧ capS (rs.take i) ≤ 289 * 16 := by
      have := capS_bound (rs.take i) (fun v hv => Hrng.out v (List.mem_of_mem_take hv))
      have h2 : (rs.take i).length ≤ 16 := by rw [List.length_take]; omega
      omega
    by_cases hlt : i < m
    · have hlt' : (i : Int) < (m : Int) := by omega
      have hil : i < rs.length := by rw [← Hm.out]; exact hlt
      have Hsn : Hid (capS (rs.take (i + 1)) = capS (rs.take i) + cap1 rs[i]) := by show _ = _; rw [List.take_succ_eq_append_getElem hil, capS_snoc]
      obtain ⟨rb, ro, rfl, hcs⟩ : ∃ b off, ra = some ⟨b, off, none⟩ ∧ ∀ j (h : j < rs.length), wr.cell? ⟨b, off + j, none⟩ = some (.int .i64 rs[j]) := by
        rcases HI2.out with h | h
        · rw [h] at hil; simp at hil
        · exact h
      have q0 := hcs i hil
      obtain ⟨hv1, hv8⟩ := Hrng.out rs[i] (List.getElem_mem hil)
      obtain ⟨C, hC⟩ : ∃ C, C = capS (rs.take i) := ⟨_, rfl⟩
      rw [← hC] at hcb Hsn ⊢
      clear hcs HP hC
      generalize rs[i] = V at *
      by_cases h0 : 0 ≤ V
      · have hne : ¬ V = -1 := by omega
        have s1 : IntKind.i64.wrap (2 * V) = 2 * V := by rw [IntKind.wrap_i64]; omega
        have s2 : IntKind.i64.wrap (2 * V + 1) = 2 * V + 1 := by rw [IntKind.wrap_i64]; omega
        obtain ⟨U, hU⟩ : ∃ U, U = 2 * V + 1 := ⟨_, rfl⟩
        rw [← hU] at s2
        have hU1 : 0 ≤ U * U ∧ U * U ≤ 289 := ⟨Int.mul_nonneg (by omega) (by omega), Int.mul_le_mul (show U ≤ 17 by omega) (show U ≤ 17 by omega) (by omega) (by omega)⟩
        have s3 : wrap64 (U * U) = U * U := by unfold wrap64; generalize U * U = X at *; omega
        have s4 : wrap64 (C + U * U) = C + U * U := by unfold wrap64; generalize U * U = X at *; omega
        have Hsn2 : Hid (C + U * U = capS (rs.take (i + 1))) := by show _ = _; rw [Hsn.out]; unfold cap1; rw [if_pos h0, ← hU]
        have HsV : Hid (Value.int .i64 (wrap64 (C + wrap64 ((2 * V + 1) * (2 * V + 1)))) = Value.int .i64 (capS (rs.take (i + 1)))) := by
          show _ = _
          rw [← hU, s3, s4, Hsn2.out]
        clear Hsn hU Hsn2 s2 s3 s4 hU1
        go_wp2
        go_roundw
        case rel => exact ⟨i + 1, by omega, by go_num, HsV.out, trivial⟩
        case measure => simp [intOf]; omega
      · obtain rfl : V = -1 := by omega
        have Hsn2 : Hid (C = capS (rs.take (i + 1))) := by show _ = _; rw [Hsn.out]; unfold cap1; rw [if_neg h0]; omega
        clear Hsn
        go_wp2
        go_roundw
        case rel => exact ⟨i + 1, by omega, by go_num, congrArg (Value.int .i64) Hsn2.out, trivial⟩
        case measure => simp [intOf]; omega
    · obtain rfl : i = m := by omega
      have hge : ¬ (i : Int) < (i : Int) := by omega
      have et : rs.take i = rs := List.take_of_length_le (by rw [← Hm.out]; exact Nat.le_refl _)
      rw [et] at hcb ⊢
      have R := HP.out wr Hb2.out
      clear et HI2 HP
      go_wp2
      exact R
end Go.Proofs.Ytokjbjfpgjincaa
