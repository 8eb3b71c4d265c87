/-
  small: are there at most so many groups, of so many blocks in all?
-/
import Derived.Test.YtjkeejbfipmidaaPuts
set_option maxRecDepth 20000
namespace Go.Proofs.Ytjkeejbfipmidaa
open Go.RowKit

/-- The blocks of groups. -/
def total (ls : List Gp) : Nat := (ls.map fun g => g.n).sum
theorem total_take (ls : List Gp) (j : Nat) (h : j < ls.length) : total (ls.take (j + 1)) = total (ls.take j) + ls[j].n := by
  unfold total
  rw [List.take_succ_eq_append_getElem h, List.map_append, List.sum_append]
  simp
theorem total_le (ls : List Gp) (j : Nat) (h : j < ls.length) : ls[j].n ≤ total ls := by
  unfold total
  induction ls generalizing j with
  | nil => exact absurd h (Nat.not_lt_zero _)
  | cons g r ih =>
    cases j with
    | zero => simp
    | succ j =>
      have := ih j (by simpa using h)
      simp only [List.map_cons, List.sum_cons, List.getElem_cons_succ]
      omega
set_option maxHeartbeats 1000000 in
theorem small_c (a : Option Addr) (len cap : Nat) (ls : List Gp) (w : World) (hl : ls.length = len) (hG : Gps w a ls) :
    Calls Try.prog 9 #[.slice a len cap] w fun e w' => ∃ b, e = .returned (.bool b) ∧ (b = true → len ≤ 60 ∧ total ls ≤ 1000) ∧ w' = w := by
  obtain ⟨Post, hPost⟩ : ∃ Post : Ending → World → Prop, Post = fun e w' => ∃ b, e = .returned (.bool b) ∧ (b = true → len ≤ 60 ∧ total ls ≤ 1000) ∧ w' = w := ⟨_, rfl⟩
  rw [← hPost]
  have HP : Hid (∀ b, (b = true → len ≤ 60 ∧ total ls ≤ 1000) → Post (.returned (.bool b)) w) := fun b h => by rw [hPost]; exact ⟨b, rfl, h, rfl⟩
  clear hPost
  have Hl : Hid (ls.length = len) := hl
  have HGs : Hid (Gps w a ls) := hG
  clear hl hG
  go_enter Try.func9, Try.ntmps9
  by_cases h60 : (60 : Int) < len
  · have R := HP.out false (fun h => by cases h)
    clear HP HGs
    go_wp2
    exact R
  · go_wp2
    go_loopw [3, 4] (fun v3 v4 wr => ∃ (j t : Nat), j ≤ len ∧ t ≤ 1000 ∧ v4 = .int .i64 (j : Int) ∧ v3 = .int .i64 (t : Int) ∧ wr = w ∧ Hid (total (ls.take j) = t)) (fun _ v4 _ => len - (intOf v4).toNat)
    case atStart => exact ⟨0, 0, Nat.zero_le _, Nat.zero_le _, rfl, rfl, rfl, rfl⟩
    case round =>
      obtain ⟨j, t, hj, ht, rfl, rfl, rfl, HT⟩ := hrel
      by_cases hlt : j < len
      · have hlt' : (j : Int) < len := by omega
        have hjl : j < ls.length := by rw [Hl.out]; exact hlt
        obtain ⟨b, off, rfl, hO⟩ := HGs.out j hjl
        have HN : Hid (total (ls.take (j + 1)) = t + ls[j].n) := (total_take ls j hjl).trans (by rw [HT.out])
        generalize ls[j] = g at hO HN
        obtain ⟨ga, gn, gc, gl⟩ := g
        have c0 : wr.cell? ⟨b, off + j, none⟩ = some (.slice ga gn gc) := hO.c0
        have hgn : (gn : Int) ≤ 9223372036854775807 := by have := hO.le; unfold maxLen at this; simp only at this; omega
        clear hO hjl HT HGs
        by_cases hg : (1000 : Int) - t < gn
        · have R := HP.out false (fun h => by cases h)
          clear HP HN
          go_wp2
          exact R
        · have HN2 : Hid (total (ls.take (j + 1)) = t + gn) := HN.out
          clear HP HN
          go_wp2
          go_roundw
          case rel => exact ⟨j + 1, t + gn, by omega, by omega, by go_num, by go_num, trivial, HN2.out⟩
          case measure => simp [intOf]; omega
      · obtain rfl : j = len := by omega
        have R := HP.out true (fun _ => ⟨by omega, by have := HT.out; rw [List.take_of_length_le (by rw [Hl.out]; exact Nat.le_refl _)] at this; omega⟩)
        clear HP HGs HT
        go_wp2
        exact R
end Go.Proofs.Ytjkeejbfipmidaa
