/-
  The document's May: what is wrong with a group?
-/
import Derived.Test.YtjkeejbfipmidaaPuts
import Derived.Test.YtjkeejbfipmidaaJmath
set_option maxRecDepth 20000
namespace Go.Proofs.Ytjkeejbfipmidaa
open Go.RowKit

def Pt.bk (p : Pt) : Bk := ⟨p.f, p.i, p.b⟩
theorem any_take_succ {α : Type} (p : α → Bool) (l : List α) (j : Nat) (h : j < l.length) : (l.take (j + 1)).any p = ((l.take j).any p || p l[j]) := by
  rw [List.take_succ_eq_append_getElem h, List.any_append]
  simp
theorem may_bad {l : List Bk} {j : Nat} (h : j < l.length) (hb : badB l[j] = true) : may l = 1 := by
  unfold may
  rw [if_pos (List.any_eq_true.2 ⟨l[j], List.getElem_mem h, hb⟩)]

set_option maxHeartbeats 1000000 in
theorem may_c (a : Option Addr) (len cap : Nat) (l : List Pt) (w : World) (hl : l.length = len) (hle : len ≤ maxLen) (hP : Puts w a l) :
    Calls Try.prog 15 #[.slice a len cap] w fun e w' => e = .returned (.int .i64 (may (l.map Pt.bk))) ∧ w' = w := by
  obtain ⟨Post, hPost⟩ : ∃ Post : Ending → World → Prop, Post = fun e w' => e = .returned (.int .i64 (may (l.map Pt.bk))) ∧ w' = w := ⟨_, rfl⟩
  rw [← hPost]
  have HP : Hid (∀ m, may (l.map Pt.bk) = m → Post (.returned (.int .i64 m)) w) := fun m h => by rw [hPost, h]; exact ⟨rfl, rfl⟩
  clear hPost
  have Hl : Hid (l.length = len) := hl
  have HPs : Hid (Puts w a l) := hP
  clear hl hP
  have hle' : (len : Int) ≤ 9223372036854775807 := by unfold maxLen at hle; omega
  clear hle
  go_enter Try.func15, Try.ntmps15
  go_wp2
  go_loopw [3] (fun v wr => ∃ (j : Nat), j ≤ len ∧ v = .int .i64 (j : Int) ∧ wr = w ∧ Hid (((l.map Pt.bk).take j).any badB = false)) (fun v _ => len - (intOf v).toNat)
  case atStart => exact ⟨0, Nat.zero_le _, rfl, rfl, rfl⟩
  case round =>
    obtain ⟨j, hj, rfl, rfl, HB⟩ := hrel
    by_cases hlt : j < len
    · have hlt' : (j : Int) < len := by omega
      have hjl : j < l.length := by rw [Hl.out]; exact hlt
      obtain ⟨b, off, rfl, hO⟩ := HPs.out j hjl
      have Hnext : Hid (badB l[j].bk = false → ((l.map Pt.bk).take (j + 1)).any badB = false) := fun h => by
        rw [any_take_succ badB _ j (by rw [List.length_map]; exact hjl), HB.out, List.getElem_map, h]; rfl
      have Hbad : Hid (badB l[j].bk = true → may (l.map Pt.bk) = 1) := fun h => may_bad (j := j) (by rw [List.length_map]; exact hjl) (by rw [List.getElem_map]; exact h)
      generalize l[j] = o at hO Hnext Hbad
      obtain ⟨⟨f1, f2, f3⟩, oi, oa, on, oc, ob⟩ := o
      have c0 : wr.cell? ⟨b, off + j * 5, none⟩ = some (.int .i64 f1) := hO.c0
      have c3 : wr.cell? ⟨b, off + j * 5 + 3, none⟩ = some (.int .i64 oi) := hO.c3
      have c4 : wr.cell? ⟨b, off + j * 5 + 4, none⟩ = some (.slice oa on oc) := hO.c4
      have Hn : Hid (ob.length = on) := hO.by_.n
      have Hbd : Hid (badB (Pt.bk ⟨(f1, f2, f3), oi, oa, on, oc, ob⟩) = decide (f1 = 1 ∨ oi < 0 ∨ 4096 ≤ oi ∨ ob.length ≠ 32)) := rfl
      clear hO hjl HB
      by_cases h1 : f1 = 1
      · have R := HP.out 1 (Hbad.out (by rw [Hbd.out]; exact decide_eq_true (Or.inl h1)))
        clear HP Hbad Hnext Hbd HPs
        go_wp2
        exact R
      · by_cases h2 : oi < 0
        · have R := HP.out 1 (Hbad.out (by rw [Hbd.out]; exact decide_eq_true (Or.inr (Or.inl h2))))
          clear HP Hbad Hnext Hbd HPs
          go_wp2
          exact R
        · by_cases h3 : 4096 ≤ oi
          · have R := HP.out 1 (Hbad.out (by rw [Hbd.out]; exact decide_eq_true (Or.inr (Or.inr (Or.inl h3)))))
            clear HP Hbad Hnext Hbd HPs
            go_wp2
            exact R
          · by_cases h4 : (on : Int) = 32
            · have e1 : (f1 == 1) = false := beq_eq_false_iff_ne.2 h1
              have e4 : ((on : Int) != 32) = false := by simp [h4]
              have HN := Hnext.out (by rw [Hbd.out, decide_eq_false_iff_not]; have := Hn.out; omega)
              have HN2 : Hid _ := HN
              clear HN
              clear HP Hbad Hnext Hbd HPs
              go_wp2
              go_roundw
              case rel => exact ⟨j + 1, by omega, by go_num, trivial, HN2.out⟩
              case measure => simp [intOf]; omega
            · have R := HP.out 1 (Hbad.out (by rw [Hbd.out]; exact decide_eq_true (by have := Hn.out; omega)))
              have e1 : (f1 == 1) = false := beq_eq_false_iff_ne.2 h1
              have e4 : ((on : Int) != 32) = true := bne_iff_ne.2 h4
              clear HP Hbad Hnext Hbd HPs
              go_wp2
              exact R
    · obtain rfl : j = len := by omega
      have hall : (l.map Pt.bk).any badB = false := by have := HB.out; rwa [List.take_of_length_le (by rw [List.length_map, Hl.out]; exact Nat.le_refl _)] at this
      by_cases h5 : (256 : Int) < j
      · have R := HP.out 7 (by unfold may; rw [hall, List.length_map, Hl.out, if_neg (by simp), if_pos (by omega)])
        clear HP HB hall HPs
        go_wp2
        exact R
      · have R := HP.out 0 (by unfold may; rw [hall, List.length_map, Hl.out, if_neg (by simp), if_neg (by omega)])
        clear HP HB hall HPs
        go_wp2
        exact R
end Go.Proofs.Ytjkeejbfipmidaa
