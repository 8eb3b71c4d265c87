/-
  The document's formed, and the law's numbers and tasks.
-/
import Derived.Test.YtokjbjfpgjincaaLbase
set_option maxRecDepth 20000
namespace Go.Proofs.Ytokjbjfpgjincaa
open Go.RowKit

theorem form_bad {l : Lad} {i : Nat} {x : Rd} (hx : x ∈ l.getD i []) (h : ¬ readOk i x) : formB l = false := by
  rw [Bool.eq_false_iff]
  exact fun hf => h ((form_iff.1 hf).ok i x hx)
theorem form_long {l : Lad} {i : Nat} (hi : i < l.length) (h : ¬ (l.getD i []).length ≤ 16) : formB l = false := by
  rw [Bool.eq_false_iff]
  exact fun hf => h ((form_iff.1 hf).m _ (getD_mem hi))
set_option maxHeartbeats 1000000 in
theorem rform_c (a : Option Addr) (n c : Nat) (L : List Rn) (w : World) (hR : RgAt w a L) (hn : L.length = n) :
    Calls Try.prog 25 #[.slice a n c] w fun e w' => e = .returned (.bool (formB (lad L))) ∧ Below w.heap.size w w' := by
  obtain ⟨Post, hPost⟩ : ∃ Post : Ending → World → Prop, Post = fun e w' => e = .returned (.bool (formB (lad L))) ∧ Below w.heap.size w w' := ⟨_, rfl⟩
  rw [← hPost]
  have HP : Hid (∀ b w', formB (lad L) = b → Below w.heap.size w w' → Post (.returned (.bool b)) w') := fun b w' h1 h2 => by rw [hPost]; exact ⟨by rw [h1], h2⟩
  clear hPost
  have HR : Hid (RgAt w a L) := hR
  have Hn : Hid (L.length = n) := hn
  clear hR hn
  by_cases h16 : n ≤ 16
  · have h16' : ¬ (16 : Int) < (n : Int) := by omega
    go_enter Try.func25, Try.ntmps25
    go_wp2
    go_loopw [3] (fun v wr => ∃ (i : Nat), i ≤ n ∧ v = .int .i64 (i : Int) ∧ Hid (Below w.heap.size w wr) ∧ Hid (∀ j, j < i → ((lad L).getD j []).length ≤ 16 ∧ ∀ x ∈ (lad L).getD j [], readOk j x)) (fun v _ => n - (intOf v).toNat)
    case atStart => exact ⟨0, Nat.zero_le _, by go_num, Below.refl _ _, fun j hj => by omega⟩
    case round =>
      obtain ⟨i, hi, rfl, HBe, HK⟩ := hrel
      by_cases hlt : i < n
      · have hlt' : (i : Int) < (n : Int) := by omega
        have hil : i < L.length := by rw [Hn.out]; exact hlt
        obtain ⟨b, off, rfl, hin⟩ := (HR.out.on HBe.out) i hil
        have c0 := hin.c0
        have Hrd : Hid (RdAt wr L[i].a L[i].r) := hin.rd
        have Hat : Hid ((lad L).getD i [] = L[i].r) := lad_at L i hil
        have hsz := hin.sz
        clear hin
        generalize L[i].a = ra at *
        generalize L[i].c = rc at *
        generalize L[i].r = rs at *
        obtain ⟨m, hm⟩ : ∃ m, m = rs.length := ⟨_, rfl⟩
        rw [← hm] at c0 hsz
        have Hm : Hid (m = rs.length) := hm
        clear hm
        by_cases hm16 : m ≤ 16
        · have hm16' : ¬ (16 : Int) < (m : Int) := by omega
          have Hc0 : Hid (wr.cell? ⟨b, off + i, none⟩ = some (.slice ra m rc)) := c0
          go_wp2
          clear c0
          obtain ⟨wq, hwq⟩ : ∃ wq, wq = wr := ⟨_, rfl⟩
          subst hwq
          go_loopw [4] (fun v wr => ∃ (j : Nat), j ≤ m ∧ v = .int .i64 (j : Int) ∧ Hid (Below wq.heap.size wq wr) ∧ Hid (∀ x ∈ rs.take j, readOk i x)) (fun v _ => m - (intOf v).toNat)
          case atStart => exact ⟨0, Nat.zero_le _, by go_num, Below.refl _ _, fun x hx => by simp at hx⟩
          case round =>
            obtain ⟨j, hj, rfl, HBq, HJ⟩ := hrel
            have c0 := cell_below Hc0.out HBq.out
            by_cases hjm : j < m
            · have hjm' : (j : Int) < (m : Int) := by omega
              have hjl : j < rs.length := by rw [← Hm.out]; exact hjm
              obtain ⟨rb, ro, rfl, hx⟩ := (Hrd.out.on HBq.out) j hjl
              have x0 := hx.c0
              have x1 := hx.c1
              obtain ⟨i0a, i0b⟩ := hx.i0
              obtain ⟨i1a, i1b⟩ := hx.i1
              have hmem : rs[j] ∈ (lad L).getD i [] := by rw [Hat.out]; exact List.getElem_mem hjl
              have Hno : Hid (¬ readOk i rs[j] → formB (lad L) = false) := fun h => form_bad hmem h
              have Hyes : Hid (readOk i rs[j] → ∀ x ∈ rs.take (j + 1), readOk i x) := fun h x hx => by
                rw [List.take_succ_eq_append_getElem hjl] at hx
                rcases List.mem_append.1 hx with hx | hx
                · exact HJ.out x hx
                · rw [List.mem_singleton.1 hx]; exact h
              clear hx hmem
              obtain ⟨⟨s, q⟩, hsq⟩ : ∃ x, rs[j] = x := ⟨_, rfl⟩
              rw [hsq] at x0 x1 i0a i0b i1a i1b Hno Hyes
              simp only at x0 x1 i0a i0b i1a i1b
              clear hsq
              have Hb2 : Hid (Below wq.heap.size wq (wr.alloc (.cells #[.int .i64 s, .int .i64 q] 45))) := HBq.out.alloc HBq.out.size _
              have Hb3 : Hid (Below w.heap.size w (wr.alloc (.cells #[.int .i64 s, .int .i64 q] 45))) := HBe.out.trans (Hb2.out.mono HBe.out.size)
              have HNo : Hid (¬ readOk i (s, q) → Post (.returned (.bool false)) (wr.alloc (.cells #[.int .i64 s, .int .i64 q] 45))) := fun h => HP.out false _ (Hno.out h) Hb3.out
              clear HP Hno Hb3 HBq HJ
              by_cases d1 : s < 0
              · have R := HNo.out (fun h => by have := h.1; simp only at this; omega)
                clear HNo Hyes
                go_wp2
                exact R
              · by_cases d2 : (i : Int) ≤ s
                · have R := HNo.out (fun h => by have := h.2.1; simp only at this; omega)
                  clear HNo Hyes
                  go_wp2
                  exact R
                · by_cases d3 : q < 0
                  · have R := HNo.out (fun h => by have := h.2.2.1; simp only at this; omega)
                    clear HNo Hyes
                    go_wp2
                    exact R
                  · by_cases d4 : 8 < q
                    · have R := HNo.out (fun h => by have := h.2.2.2; simp only at this; omega)
                      clear HNo Hyes
                      go_wp2
                      exact R
                    · have HJ2 : Hid (∀ x ∈ rs.take (j + 1), readOk i x) := Hyes.out ⟨by simp only; omega, by simp only; omega, by simp only; omega, by simp only; omega⟩
                      clear HNo Hyes
                      go_wp2
                      go_roundw
                      case rel => exact ⟨j + 1, by omega, by go_num, Hb2, HJ2⟩
                      case measure => simp [intOf]; omega
            · obtain rfl : j = m := by omega
              have hge : ¬ (j : Int) < (j : Int) := by omega
              have HK2 : Hid (∀ t, t < i + 1 → ((lad L).getD t []).length ≤ 16 ∧ ∀ x ∈ (lad L).getD t [], readOk t x) := fun t ht => by
                by_cases e : t = i
                · subst e
                  rw [Hat.out]
                  refine ⟨by rw [← Hm.out]; exact hm16, fun x hx => HJ.out x (by rwa [List.take_of_length_le (by rw [← Hm.out]; exact Nat.le_refl _)])⟩
                · exact HK.out t (by omega)
              have Hb3 : Hid (Below w.heap.size w wr) := HBe.out.trans (HBq.out.mono HBe.out.size)
              clear HP HK HJ HBq HBe Hat Hrd
              go_wp2
              go_roundw
              case rel => exact ⟨i + 1, by omega, by go_num, Hb3, HK2⟩
              case measure => simp [intOf]; omega
        · have hm16' : (16 : Int) < (m : Int) := by omega
          have R := HP.out false wr (form_long (i := i) (by rw [lad_len]; exact hil) (by rw [Hat.out, ← Hm.out]; exact hm16)) HBe.out
          clear HP HBe HK
          go_wp2
          exact R
      · obtain rfl : i = n := by omega
        have hge : ¬ (i : Int) < (i : Int) := by omega
        have R := HP.out true wr (form_iff.2 ⟨by rw [lad_len, Hn.out]; exact h16, fun r hr => by
          obtain ⟨j, hj, rfl⟩ := List.mem_iff_getElem.1 hr
          have := (HK.out j (by rw [lad_len, Hn.out] at hj; exact hj)).1
          rw [List.getD_eq_getElem?_getD, List.getElem?_eq_getElem hj] at this
          exact this, fun j x hx => (HK.out j (by have := of_read hx; rw [lad_len, Hn.out] at this; exact this)).2 x hx⟩) HBe.out
        clear HP HBe HK
        go_wp2
        exact R
  · have h16' : (16 : Int) < (n : Int) := by omega
    have R := HP.out false w (by rw [Bool.eq_false_iff]; exact fun hf => h16 (by have := (form_iff.1 hf).n; rw [lad_len, Hn.out] at this; exact this)) (Below.refl _ _)
    clear HP
    go_enter Try.func25, Try.ntmps25
    go_wp2
    exact R
end Go.Proofs.Ytokjbjfpgjincaa
