/-
  The document's May and Radii.
-/
import Derived.Test.YtokjbjfpgjincaaLspread
set_option maxRecDepth 20000
namespace Go.Proofs.Ytokjbjfpgjincaa
open Go.RowKit

theorem may_bad {l : Lad} {k : Nat} (hk : k < l.length) {v : Int} (hv : v ∈ spreadL l k) (h : 8 < v) : mayB l = false := by
  rw [Bool.eq_false_iff]
  intro hf
  have := (may_iff.1 hf).le k hk v hv
  omega
set_option maxHeartbeats 1000000 in
theorem rmay_c (a : Option Addr) (n c : Nat) (L : List Rn) (w : World) (hR : RgAt w a L) (hn : L.length = n) :
    Calls Try.prog 11 #[.slice a n c] w fun e w' => e = .returned (.bool (mayB (lad L))) ∧ Below w.heap.size w w' := by
  obtain ⟨Post, hPost⟩ : ∃ Post : Ending → World → Prop, Post = fun e w' => e = .returned (.bool (mayB (lad L))) ∧ Below w.heap.size w w' := ⟨_, rfl⟩
  rw [← hPost]
  have HP : Hid (∀ b w', mayB (lad L) = b → Below w.heap.size w w' → Post (.returned (.bool b)) w') := fun b w' h1 h2 => by rw [hPost]; exact ⟨by rw [h1], h2⟩
  clear hPost
  have HR : Hid (RgAt w a L) := hR
  have Hn : Hid (L.length = n) := hn
  clear hR hn
  go_enter Try.func11, Try.ntmps11
  go_wp2_with fail
  refine (rform_c a n c L w HR.out Hn.out).mono ?_
  rintro _ w1 ⟨rfl, hb1⟩
  have Hb1 : Hid (Below w.heap.size w w1) := hb1
  clear hb1
  cases hF : formB (lad L) with
  | false =>
    have R := HP.out false w1 (by unfold mayB; rw [hF]; rfl) Hb1.out
    clear HP
    go_wp2
    exact R
  | true =>
    have HF : Hid (Formed (lad L)) := form_iff.1 hF
    have HFb : Hid (formB (lad L) = true) := hF
    clear hF
    have hn16 : n ≤ 16 := by have := HF.out.n; rw [lad_len, Hn.out] at this; exact this
    go_wp2
    go_loopw [4] (fun v wr => ∃ (i : Nat), i ≤ n ∧ v = .int .i64 (i : Int) ∧ Hid (Below w.heap.size w wr) ∧ Hid (∀ k, k < i → ∀ v ∈ spreadL (lad L) k, v ≤ 8)) (fun v _ => n - (intOf v).toNat)
    case atStart => exact ⟨0, Nat.zero_le _, by go_num, Hb1, fun k hk => by omega⟩
    case round =>
      clear Hb1
      obtain ⟨i, hi, rfl, HBe, HK⟩ := hrel
      by_cases hlt : i < n
      · have hlt' : (i : Int) < (n : Int) := by omega
        go_wp2_with fail
        refine (rspread_c a n c L i wr (HR.out.on HBe.out) Hn.out HF.out hlt).mono ?_
        rintro _ w2 ⟨rfl, hI, hb2⟩
        have HI : Hid (IRow w2 wr.heap.size (spreadL (lad L) i)) := hI
        have Hlen : Hid ((spreadL (lad L) i).length = n) := by show _ = _; rw [spreadL_len, lad_len, Hn.out]
        have Hb2 : Hid (Below w.heap.size w w2) := HBe.out.trans (hb2.mono HBe.out.size)
        have Hbad : Hid (∀ v ∈ spreadL (lad L) i, 8 < v → mayB (lad L) = false) := fun v hv h => may_bad (by rw [lad_len, Hn.out]; exact hlt) hv h
        have Hok : Hid ((∀ v ∈ spreadL (lad L) i, v ≤ 8) → ∀ k, k < i + 1 → ∀ v ∈ spreadL (lad L) k, v ≤ 8) := fun h k hk => by
          by_cases e : k = i
          · subst e; exact h
          · exact HK.out k (by omega)
        clear hI hb2 HBe HK
        generalize spreadL (lad L) i = sp at *
        generalize wr.heap.size = g at *
        go_wp2
        obtain ⟨wq, hwq⟩ : ∃ wq, wq = w2 := ⟨_, rfl⟩
        subst hwq
        go_loopw [6] (fun v wr => ∃ (k : Nat), k ≤ n ∧ v = .int .i64 (k : Int) ∧ wr = wq ∧ Hid (∀ v ∈ sp.take k, v ≤ 8)) (fun v _ => n - (intOf v).toNat)
        case atStart => exact ⟨0, Nat.zero_le _, by go_num, rfl, fun v hv => by simp at hv⟩
        case round =>
          obtain ⟨k, hk, rfl, rfl, HJ⟩ := hrel
          by_cases hkn : k < n
          · have hkn' : (k : Int) < (n : Int) := by omega
            have hkl : k < sp.length := by rw [Hlen.out]; exact hkn
            have q0 := HI.out.at hkl
            have hgd : sp.getD k (-1) = sp[k] := by rw [List.getD_eq_getElem?_getD, List.getElem?_eq_getElem hkl]; rfl
            rw [hgd] at q0
            by_cases h8 : 8 < sp[k]
            · have R := HP.out false wr (Hbad.out _ (List.getElem_mem hkl) h8) Hb2.out
              clear HP hgd
              generalize sp[k] = v at *
              go_wp2
              exact R
            · have HJ2 : Hid (∀ v ∈ sp.take (k + 1), v ≤ 8) := fun v hv => by
                rw [List.take_succ_eq_append_getElem hkl] at hv
                rcases List.mem_append.1 hv with hv | hv
                · exact HJ.out v hv
                · rw [List.mem_singleton.1 hv]; omega
              clear HP hgd HJ
              generalize sp[k] = v at *
              go_wp2
              go_roundw
              case rel => exact ⟨k + 1, by omega, by go_num, trivial, HJ2⟩
              case measure => simp [intOf]; omega
          · obtain rfl : k = n := by omega
            have hge : ¬ (k : Int) < (k : Int) := by omega
            have HK2 : Hid (∀ t, t < i + 1 → ∀ v ∈ spreadL (lad L) t, v ≤ 8) := Hok.out (fun v hv => HJ.out v (by rwa [List.take_of_length_le (by rw [Hlen.out]; exact Nat.le_refl _)]))
            clear HP HJ Hok Hbad
            go_wp2
            go_roundw
            case rel => exact ⟨i + 1, by omega, by go_num, Hb2, HK2⟩
            case measure => simp [intOf]; omega
      · obtain rfl : i = n := by omega
        have hge : ¬ (i : Int) < (i : Int) := by omega
        have R := HP.out true wr (may_iff.2 ⟨HF.out, fun k hk => HK.out k (by rw [lad_len, Hn.out] at hk; exact hk)⟩) HBe.out
        clear HP HBe HK
        go_wp2
        exact R
set_option maxHeartbeats 1000000 in
theorem rradii_c (a : Option Addr) (n c : Nat) (L : List Rn) (k : Int) (w : World) (hR : RgAt w a L) (hn : L.length = n) (hk : I64 k) :
    Calls Try.prog 12 #[.slice a n c, .int .i64 k] w fun e w' => Below w.heap.size w w' ∧ ∃ a' c', e = .returned (.slice a' (radL (lad L) k).length c') ∧ IntsAt w' a' (radL (lad L) k) ∧ (radL (lad L) k).length ≤ 16 := by
  obtain ⟨Post, hPost⟩ : ∃ Post : Ending → World → Prop, Post = fun e w' => Below w.heap.size w w' ∧ ∃ a' c', e = .returned (.slice a' (radL (lad L) k).length c') ∧ IntsAt w' a' (radL (lad L) k) ∧ (radL (lad L) k).length ≤ 16 := ⟨_, rfl⟩
  rw [← hPost]
  have HP : Hid (∀ a' c' m w', m = (radL (lad L) k).length → Below w.heap.size w w' → IntsAt w' a' (radL (lad L) k) → m ≤ 16 → Post (.returned (.slice a' m c')) w') := fun a' c' m w' h1 h2 h3 h4 => by rw [hPost]; subst h1; exact ⟨h2, a', c', rfl, h3, h4⟩
  clear hPost
  have HR : Hid (RgAt w a L) := hR
  have Hn : Hid (L.length = n) := hn
  clear hR hn
  go_enter Try.func12, Try.ntmps12
  go_wp2_with fail
  refine (rmay_c a n c L w HR.out Hn.out).mono ?_
  rintro _ w1 ⟨rfl, hb1⟩
  have Hnil : Hid (stB (lad L) k = false → Post (.returned (.slice none 0 0)) w1) := fun h => by
    have e : radL (lad L) k = [] := by unfold radL; rw [h]; rfl
    exact HP.out none 0 0 w1 (by rw [e]; rfl) hb1 (.inl e) (by omega)
  cases hM : mayB (lad L) with
  | false =>
    have R := Hnil.out (by unfold stB; rw [hM]; rfl)
    clear HP Hnil
    go_wp2
    exact R
  | true =>
    by_cases h0 : k < 0
    · have R := Hnil.out (by unfold stB; rw [decide_eq_false (by omega)]; simp)
      clear HP Hnil
      go_wp2
      exact R
    · by_cases h1 : (n : Int) ≤ k
      · have R := Hnil.out (by unfold stB; rw [decide_eq_false (by rw [lad_len, Hn.out]; omega)]; simp)
        clear HP Hnil
        go_wp2
        exact R
      · obtain ⟨K, rfl⟩ := Int.eq_ofNat_of_zero_le (show 0 ≤ k by omega)
        have hKn : K < n := by omega
        have hst : stB (lad L) (K : Int) = true := by unfold stB; rw [hM, decide_eq_true (by rw [lad_len, Hn.out]; omega)]; rfl
        have e : radL (lad L) (K : Int) = spreadL (lad L) K := by unfold radL; rw [if_pos hst]; rfl
        have hF := (may_iff.1 hM).f
        have hlen : (radL (lad L) (K : Int)).length = n := by rw [e, spreadL_len, lad_len, Hn.out]
        have hn16 : n ≤ 16 := by have := hF.n; rw [lad_len, Hn.out] at this; exact this
        have HF : Hid (Formed (lad L)) := hF
        have Hlen : Hid ((radL (lad L) (K : Int)).length = n) := hlen
        have He : Hid (radL (lad L) (K : Int) = spreadL (lad L) K) := e
        clear hF hlen e hst hM Hnil
        go_wp2_with fail
        refine (rspread_c a n c L K w1 (HR.out.on hb1) Hn.out HF.out hKn).mono ?_
        rintro _ w2 ⟨rfl, hI, hb2⟩
        have R := HP.out (some ⟨w1.heap.size, 0, none⟩) n n w2 Hlen.out.symm (hb1.trans (hb2.mono hb1.size)) (by rw [He.out]; exact hI.ints) hn16
        clear HP hI hb2 hb1
        go_wp2
        exact R
end Go.Proofs.Ytokjbjfpgjincaa
