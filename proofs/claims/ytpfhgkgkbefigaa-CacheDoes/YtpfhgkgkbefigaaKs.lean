/-
  slices.SortFunc at the items of a cache; slices.SortedFunc.
-/
import Derived.Test.YtpfhgkgkbefigaaKy
import Derived.Test.YtpfhgkgkbefigaaShelf
import Derived.Shelf.SlSortCmp.NoneTotal
import Derived.Lib.OwnBridge
set_option maxRecDepth 20000
namespace Go.Proofs.Ytpfhgkgkbefigaa
open Go.RowKit Go.Maps Go.Shelf Go.Sort Go.Lib

theorem cf_swo {α : Type} (u : α → Nat) : SWO (ltOf fun x y => cmpI (u x : Int) (u y : Int)) := by
  have e : ∀ x y : α, ltOf (fun x y => cmpI (u x : Int) (u y : Int)) x y = decide (u x < u y) := fun x y => by
    unfold ltOf
    refine decide_eq_decide.2 ?_
    rw [cmpI_neg]
    omega
  refine ⟨fun x => ?_, fun x y z h1 h2 => ?_, fun x y z h1 h2 => ?_⟩
  · rw [e]; simp
  · rw [e] at *; simp at *; omega
  · rw [e] at *; simp at *; omega
theorem enters34 (args : Array Value) (w : World) : (callFunc 34 args).run Try.prog w = .ok (.enter 34 args) w := enters_of Try.func34 (by kernel_rfl) rfl args w
theorem heap_sorted {α : Type} [Inhabited α] (enc : α → Value) (w : World) (g n : Nat) (d : Array α) (os : Array Obj) : w.grownBy (sortWorld enc w g 0 n d os) (some g) := by
  refine ⟨rfl, rfl, rfl, by simp [sortWorld, putRow, mapBlock, Sort.ahead, grow], fun k hk hne => ?_⟩
  unfold sortWorld
  rw [heap_grow_old _ _ (by simpa [putRow, mapBlock, Sort.ahead] using hk)]
  have : g ≠ k := fun e => hne (by rw [e])
  simp [putRow, mapBlock, Sort.ahead, Array.getElem?_modify, this]
set_option maxHeartbeats 1000000 in
theorem sort_c {D : Nat → It} {I xs : List Nat} (hs : I.Pairwise fun a b => (D a).u < (D b).u) (hp : xs.Perm I) {B : Nat} {w : World} {g cv : Nat} (hrow : PRow B w (some ⟨g, 0, none⟩) xs.length cv xs) (hit : ∀ b ∈ I, ∃ p, Item w b (D b) p) (h0 : I ≠ []) (hl : I.length ≤ 1000) :
    Calls Try.prog 43 #[.slice (some ⟨g, 0, none⟩) xs.length cv, .func (.func 34) #[] #[]] w fun e w' => e = .returned (.tuple #[]) ∧ PRow B w' (some ⟨g, 0, none⟩) xs.length cv I ∧ w.grownBy w' (some g) := by
  obtain ⟨b0, hb0⟩ : ∃ b, b ∈ I := by
    cases I with
    | nil => exact absurd rfl h0
    | cons b _ => exact ⟨b, by simp⟩
  have : Inhabited {b : Nat // b ∈ I} := ⟨⟨b0, hb0⟩⟩
  obtain ⟨ys, hys⟩ : ∃ ys : List {b : Nat // b ∈ I}, ys.map Subtype.val = xs := ⟨xs.attachWith (· ∈ I) (fun b hb => hp.mem_iff.1 hb), List.attachWith_map_subtype_val _⟩
  obtain ⟨cur, hg, hgB⟩ := hrow.blk
  have hglt := (Array.getElem?_eq_some_iff.1 hg).1
  have hylen : ys.length = xs.length := by rw [← hys, List.length_map]
  have hxlen : xs.length ≤ 1000 := by rw [hp.length_eq]; exact hl
  have hH : Holds (fun x : {b : Nat // b ∈ I} => pv x.1) w g 0 ys.toArray := fun j hj => by
    have hj' : j < ys.length := by simpa using hj
    have hc := hrow.cell (i := j) (by omega)
    rw [Nat.zero_add]
    refine ⟨?_, hc.2⟩
    rw [hc.1]
    congr 2
    rw [← hys]
    simp [hj']
  have hcmp : CmpLays1 Try.prog 34 #[] (fun x : {b : Nat // b ∈ I} => pv x.1) (fun x y => cmpI ((D x.1).u : Int) ((D y.1).u : Int)) g 0 ys.toArray.size w := fun m os dk hdk x y => by
    obtain ⟨p, hx⟩ := hit x.1 x.2
    obtain ⟨p', hy⟩ := hit y.1 y.2
    have hsw := heap_sorted (fun x : {b : Nat // b ∈ I} => pv x.1) w g m dk os
    have hx' : Item (sortWorld (fun x : {b : Nat // b ∈ I} => pv x.1) w g 0 m dk os) x.1 (D x.1) p := hx.same (hsw.block _ hx.lt (fun e => blk_ne hx hg (by decide) (by simpa using e)))
    have hy' : Item (sortWorld (fun x : {b : Nat // b ∈ I} => pv x.1) w g 0 m dk os) y.1 (D y.1) p' := hy.same (hsw.block _ hy.lt (fun e => blk_ne hy hg (by decide) (by simpa using e)))
    refine (byUse_c x.1 y.1 _ _ _ hx'.c3 hy'.c3).mono ?_
    rintro e w' ⟨rfl, rfl⟩
    exact ⟨rfl, 1, #[], by rw [grow_empty]; rfl⟩
  have hinj : ∀ x y : {b : Nat // b ∈ I}, (D x.1).u = (D y.1).u → x = y := fun x y e => by
    have hpw : ∀ a ∈ I, ∀ b ∈ I, (D a).u = (D b).u → a = b := by
      intro a ha b hb hab
      obtain ⟨i, hi, rfl⟩ := List.getElem_of_mem ha
      obtain ⟨j, hj, rfl⟩ := List.getElem_of_mem hb
      rcases Nat.lt_trichotomy i j with h1 | h1 | h1
      · have := List.pairwise_iff_getElem.1 hs i j hi hj h1
        omega
      · subst h1; rfl
      · have := List.pairwise_iff_getElem.1 hs j i hj hi h1
        omega
    exact Subtype.ext (hpw x.1 x.2 y.1 y.2 e)
  have e2 : ∀ x y : {b : Nat // b ∈ I}, ltOf (fun x y : {b : Nat // b ∈ I} => cmpI ((D x.1).u : Int) ((D y.1).u : Int)) x y = decide ((D x.1).u < (D y.1).u) := fun x y => by
    unfold ltOf
    refine decide_eq_decide.2 ?_
    rw [cmpI_neg]
    omega
  have hsort := Any.slices_SortFunc_total (P := Try.prog) (ρ := sortF_ren) sortF (fun x : {b : Nat // b ∈ I} => pv x.1) (fun _ => rfl) (fun x y => cmpI ((D x.1).u : Int) ((D y.1).u : Int)) (cf_swo fun x : {b : Nat // b ∈ I} => (D x.1).u) 34 #[] g 0 cv ys.toArray w enters34 hcmp hH hglt (by simp; omega)
    (fun x y h1 h2 => by rw [e2] at h1 h2; simp at h1 h2; exact hinj x y (by omega))
  have esz : ys.toArray.size = xs.length := by simpa using hylen
  rw [esz] at hsort
  refine hsort.mono ?_
  rintro e w' ⟨rfl, m, os, rfl⟩
  generalize hzs : (ys.toArray.toList.mergeSort fun x y => !ltOf (fun x y : {b : Nat // b ∈ I} => cmpI ((D x.1).u : Int) ((D y.1).u : Int)) y x) = zs
  have hzp : zs.Perm ys := by rw [← hzs]; exact List.mergeSort_perm _ _
  have hzI : zs.map Subtype.val = I := by
    have hpI : (zs.map Subtype.val).Perm I := (hzp.map _).trans (by rw [hys]; exact hp)
    refine rise_eq (u := fun b => (D b).u) _ _ ?_ hs (fun x => hpI.mem_iff)
    have hpw : zs.Pairwise (fun x y => (!ltOf (fun x y : {b : Nat // b ∈ I} => cmpI ((D x.1).u : Int) ((D y.1).u : Int)) y x) = true) := by
      rw [← hzs]
      refine List.pairwise_mergeSort (fun x y z h1 h2 => ?_) (fun x y => ?_) _
      · simp only [e2, Bool.not_eq_true', decide_eq_false_iff_not] at *
        omega
      · simp only [e2, Bool.or_eq_true, Bool.not_eq_true', decide_eq_false_iff_not]
        omega
    have hnd : (zs.map Subtype.val).Nodup := hpI.nodup_iff.2 (hs.imp (fun {a b} h e => by subst e; omega))
    rw [List.pairwise_map]
    have hnd2 : zs.Pairwise (fun x y => x.1 ≠ y.1) := List.pairwise_map.1 hnd
    refine (List.pairwise_and_iff.2 ⟨hpw, hnd2⟩).imp ?_
    rintro x y ⟨h1, h2⟩
    rw [e2, Bool.not_eq_true', decide_eq_false_iff_not] at h1
    have : (D x.1).u ≠ (D y.1).u := fun e => h2 (congrArg Subtype.val (hinj x y e))
    omega
  have hgw := heap_sorted (fun x : {b : Nat // b ∈ I} => pv x.1) w g m zs.toArray os
  refine ⟨rfl, ?_, hgw⟩
  have hown : w.ownsRow B 54 1 (.slice (some ⟨g, 0, none⟩) xs.length cv) xs.length (ys.map fun x => pv x.1) := by
    have := hrow
    unfold PRow at this
    rw [← hys, List.map_map] at this
    rw [← hys]
    exact this
  have hr := ownsRow_putRow (q := m) (ys := zs) (k := xs.length) hown (by rw [hzp.length_eq, hylen]) (Nat.le_refl _)
  have hzl : zs.length = xs.length := by rw [hzp.length_eq, hylen]
  rw [show zs.take xs.length = zs from List.take_of_length_le (by omega)] at hr
  have hr2 : PRow B (putRow (fun x : {b : Nat // b ∈ I} => pv x.1) (Sort.ahead w m) g 0 zs.toArray) (some ⟨g, 0, none⟩) xs.length cv I := by
    have hm : zs.map (fun x => pv x.1) = I.map pv := by
      have := congrArg (List.map pv) hzI
      rw [List.map_map] at this
      exact this
    unfold PRow
    rw [← hm]
    exact hr
  refine hr2.same (fun g' e => ?_)
  cases e
  unfold sortWorld
  rw [heap_grow_old _ _ (by simpa [putRow, mapBlock, Sort.ahead] using hglt)]
end Go.Proofs.Ytpfhgkgkbefigaa
