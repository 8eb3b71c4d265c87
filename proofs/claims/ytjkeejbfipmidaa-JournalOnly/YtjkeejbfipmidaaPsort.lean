/-
  What slices.SortFunc leaves of files.
-/
import Derived.Test.YtjkeejbfipmidaaPclos
import Derived.Test.YtjkeejbfipmidaaFins
import Derived.Sort.OwnSorted
set_option maxRecDepth 20000
namespace Go.Proofs.Ytjkeejbfipmidaa
open Go.RowKit Go.Maps Go.Sort Go.Shelf Go.Lib

theorem cmpI_neg (a b : Int) : cmpI a b < 0 ↔ a < b := by unfold cmpI; split <;> (try split) <;> omega
theorem cmpI_zero (a b : Int) : cmpI a b = 0 ↔ a = b := by unfold cmpI; split <;> (try split) <;> omega
theorem cf_lt (x y : Fl) : ltOf cf x y = ltF x y := by
  unfold ltOf cf ltF
  refine decide_eq_decide.2 ?_
  have h1 := cmpI_neg x.1 y.1
  have h2 := cmpI_neg x.2.1 y.2.1
  have h3 := cmpI_neg x.2.2 y.2.2
  have z1 := cmpI_zero x.1 y.1
  have z2 := cmpI_zero x.2.1 y.2.1
  unfold orI
  split
  · split
    · omega
    · omega
  · omega
theorem ltF_false {x y : Fl} : ltF x y = false ↔ ¬ Lt x y := by unfold Lt; simp
theorem cf_swo : SWO (ltOf cf) where
  irrefl x := by rw [cf_lt, ltF_false]; exact lt_irrefl x
  trans x y z h1 h2 := by rw [cf_lt] at *; exact Lt.trans h1 h2
  ntrans x y z h1 h2 := by
    rw [cf_lt, ltF_false, Lt.iff] at *
    omega
theorem cf_total (x y : Fl) (h1 : ltOf cf x y = false) (h2 : ltOf cf y x = false) : x = y := by
  rw [cf_lt, ltF_false] at *
  rcases lt_tri x y with h | h | h
  · exact absurd h h1
  · exact h
  · exact absurd h h2
/-- Files in order. -/
def sorted (fs : List Fl) : List Fl := fs.mergeSort fun x y => !ltOf cf y x
theorem sorted_perm' (fs : List Fl) : (sorted fs).Perm fs := List.mergeSort_perm _ _
theorem sorted_rise (fs : List Fl) (hn : fs.Nodup) : (sorted fs).Pairwise Lt := by
  have hp : (sorted fs).Pairwise (fun x y => (!ltOf cf y x) = true) := by
    refine List.pairwise_mergeSort (fun x y z h1 h2 => ?_) (fun x y => ?_) fs
    · simp only [Bool.not_eq_true'] at *
      exact cf_swo.ntrans z y x h2 h1
    · simp only [Bool.or_eq_true, Bool.not_eq_true']
      rw [cf_lt, cf_lt, ltF_false, ltF_false]
      by_cases h : Lt y x
      · right
        exact fun h' => lt_irrefl _ (Lt.trans h h')
      · exact Or.inl h
  have hd : (sorted fs).Nodup := (sorted_perm' fs).nodup_iff.2 hn
  refine (List.pairwise_and_iff.2 ⟨hp, hd⟩).imp ?_
  rintro x y ⟨h1, h2⟩
  rw [Bool.not_eq_true', cf_lt, ltF_false] at h1
  rcases lt_tri x y with h | h | h
  · exact h
  · exact absurd h h2
  · exact absurd h h1
/-- One file's cells. -/
def encF (f : Fl) : List Value := [.int .i64 f.1, .int .i64 f.2.1, .int .i64 f.2.2]
theorem grown_sorted {w : World} {g n : Nat} {os : Array Obj} (d : Array Fl) : w.grownBy (sortWorldK encF 3 w g 0 n d os) (some g) := by
  refine ⟨rfl, rfl, rfl, by simp [sortWorldK, putRowK, putRow, mapBlock, Sort.ahead], fun k hk hne => ?_⟩
  unfold sortWorldK
  rw [heap_grow_old _ _ (by simpa [putRowK, putRow, mapBlock, Sort.ahead] using hk)]
  have : g ≠ k := fun e => hne (by rw [e])
  simp [putRowK, putRow, mapBlock, Sort.ahead, Array.getElem?_modify, this]
theorem holds_fls {w : World} {g n : Nat} {fs : List Fl} (h : Fls w (some ⟨g, 0, none⟩) n fs) (hf : ∀ k, w.frozen? ⟨g, k, none⟩ = false) : HoldsK encF 3 w g 0 fs.toArray := by
  intro j hj
  refine ⟨?_, hf _⟩
  have hj' : j < fs.toArray.size * 3 := by simpa using hj
  rw [get_flatK _ _ _ j hj']
  have hq : j / 3 < fs.length := by simp at hj'; omega
  obtain ⟨b, off, e, c0, c1, c2⟩ := h.cells (j / 3) hq
  cases e
  have e1 : fs.toArray[j / 3]! = fs[j / 3] := by simp [hq]
  rw [e1]
  have h3 : j % 3 < 3 := Nat.mod_lt _ (by omega)
  have ej : 0 + j = 0 + j / 3 * 3 + j % 3 := by omega
  rw [ej]
  generalize j % 3 = r at *
  match r, h3 with
  | 0, _ => exact c0
  | 1, _ => exact c1
  | 2, _ => exact c2
theorem fls_holds {w : World} {g : Nat} {fs : List Fl} (h : HoldsK encF 3 w g 0 fs.toArray) : Fls w (some ⟨g, 0, none⟩) fs.length fs := by
  refine ⟨rfl, fun k hk => ⟨g, 0, rfl, ?_, ?_, ?_⟩⟩
  · have := (HoldsK.cell h (i := k) (c := 0) (by simpa using hk) (by omega)).1
    simpa [hk, encF] using this
  · have := (HoldsK.cell h (i := k) (c := 1) (by simpa using hk) (by omega)).1
    simpa [hk, encF] using this
  · have := (HoldsK.cell h (i := k) (c := 2) (by simpa using hk) (by omega)).1
    simpa [hk, encF] using this
theorem isAgg38 (w : World) : (isAgg 38).run Try.prog w = .ok true w := by kernel_rfl
theorem enters28 (args : Array Value) (w : World) : (callFunc 37 args).run Try.prog w = .ok (.enter 37 args) w := enters_of Try.func37 (by kernel_rfl) rfl args w
/-- slices.SortFunc at files. -/
theorem sort_c (w : World) (g n c : Nat) (fs : List Fl) (h : Fls w (some ⟨g, 0, none⟩) n fs) (hf : ∀ k, w.frozen? ⟨g, k, none⟩ = false) (hg : g < w.heap.size) (hn : n < 3000000) :
    Calls Try.prog 36 #[.slice (some ⟨g, 0, none⟩) n c, .func (.func 37) #[] #[]] w fun e w' => e = .returned (.tuple #[]) ∧ Fls w' (some ⟨g, 0, none⟩) n (sorted fs) ∧ w.grownBy w' (some g) := by
  have hl := h.n
  have hcmp : CmpLays Try.prog 37 #[] encF 3 cf g 0 fs.toArray.size w := fun _ _ _ _ x y => clos_c x y _
  have hH := holds_fls h hf
  have hs := AnyQ.slices_SortFunc_total (P := Try.prog) (ρ := sortF_ren) sortF 3 isAgg38 sizeOf38 encF (fun _ => rfl) (fun x v hv => by simp [encF] at hv; rcases hv with rfl | rfl | rfl <;> rfl) cf cf_swo 37 #[] g 0 c fs.toArray w enters28 hcmp hH hg (by simp; omega) cf_total
  have e : fs.toArray.size = n := by simpa using hl
  rw [e] at hs
  refine hs.mono ?_
  rintro e w' ⟨rfl, m, os, rfl⟩
  have hlen : (sorted fs).length = n := by rw [(sorted_perm' fs).length_eq, hl]
  refine ⟨rfl, ?_, grown_sorted _⟩
  have hk := holdsK_sortWorldK_c (enc := encF) (k := 3) (w := w) (blk := g) (off := 0) fs.toArray (sorted fs).toArray m os hH hg (by simp [hlen, hl])
  have := fls_holds hk
  rw [hlen] at this
  exact this
end Go.Proofs.Ytjkeejbfipmidaa
