/-
  Walk of BuildRefuses.
-/
import Derived.Test.YtbdjgaagafnfaaaBframe
set_option maxRecDepth 20000
namespace Go.Proofs.Ytbdjgaagafnfaaa
open C Go.RowKit

theorem sizeOf3 (w : World) : (sizeOf 3).run Try.prog w = .ok 1 w := by kernel_rfl
/-- A list of numbers from a place on. -/
theorem slice24 (b m : Nat) (hm : m ≤ 256) : ∃ o' : Nat, (∀ w, (Instr.sliceAt 24 (.slice (some ⟨b, 0, none⟩) 256 256) (some (.int .i64 (m : Int))) none none).run Try.prog w = .ok (.slice (some ⟨b, o', none⟩) (256 - m) (256 - m)) w) ∧ (m = 256 ∨ o' = m) := by
  refine ⟨if 256 = m then 0 else 0 + m, fun w => ?_, ?_⟩
  · rw [run_sliceAt_slice w 24 _ _ _ _ (by kernel_rfl), run_slice_l w 24 (some ⟨b, 0, none⟩) 256 256 (by kernel_rfl) .i64 m (by omega) (by omega), show Try.prog.elem 24 = 3 by kernel_rfl, sizeOf3, Result.andThen_ok, Int.toNat_natCast]
    unfold sliced
    split
    · rfl
    · rw [Nat.mul_one]; show Result.ok (Value.slice (some ((⟨b, 0, none⟩ : Addr).add m)) _ _) w = _; rw [Addr.add_mid]
  · by_cases h : 256 = m
    · exact .inl h.symm
    · rw [if_neg h]; exact .inr (by omega)
theorem LandI.outer {w0 w : World} {fh fb : Nat → List Int} {nh nb : Nat} {ah ab : Option Addr} {ch cb : Nat} {gh gb : List (Nat × Nat)} (h : LandI w0 fh fb nh nb ah ch gh ab cb gb w) (h0 : 0 < nh) : ∃ b cur, ah = some ⟨b, 0, none⟩ ∧ w.heap[b]? = some (.cells cur 24 (0, 0)) ∧ w0.heap.size ≤ b ∧ ∀ i, i < nh → cur[i]? = some (slI (gh.getD i (0, 0))) := by
  rcases h.oh.2 with ⟨_, h1⟩ | ⟨g, cap, cur, hv, hb, hh, _, _, hsz, htk⟩
  · omega
  · simp only [Value.slice.injEq] at hv
    refine ⟨g, cur, hv.1, hh, hb, fun i hi => ?_⟩
    have e : (cur.toList.take (nh * 1))[i]? = (gh.map slI)[i]? := by rw [htk]
    rw [List.getElem?_take_of_lt (by omega), Array.getElem?_toList] at e
    have hl := h.lh
    rw [e, List.getElem?_map, List.getD_eq_getElem?_getD, List.getElem?_eq_getElem (by omega)]
    rfl
theorem rows_block {w : World} {b : Nat} {cur : Array Value} {ls : List (List Int)} (hb : w.heap[b]? = some (.cells cur 24 (0, 0))) (h : ∀ i, i < ls.length → ∃ ai ci, cur[i]? = some (.slice ai (ls.getD i []).length ci) ∧ IntsAt w ai (ls.getD i []).length (ls.getD i [])) : Rows2 w (some ⟨b, 0, none⟩) ls :=
  ⟨fun i hi => by
    obtain ⟨ai, ci, h1, h2⟩ := h i hi
    exact ⟨b, 0, ai, ci, rfl, by rw [cell_of_row w b (0 + i) cur 24 (0, 0) hb, Nat.zero_add]; exact h1, h2⟩⟩
/-- Lists of 256 noughts. -/
def zr (n : Nat) : List (List Int) := (List.range n).map fun _ => List.replicate 256 (0 : Int)
theorem zr_len (n : Nat) : (zr n).length = n := by simp [zr]
theorem zr_at (n i : Nat) (hi : i < n) : (zr n).getD i [] = List.replicate 256 (0 : Int) := by
  unfold zr
  rw [List.getD_eq_getElem?_getD, List.getElem?_map, List.getElem?_range hi]
  rfl
theorem zr_ok {m : Int} (hm : 0 < m) : okG m (zr 9) := ⟨zr_len 9, fun i hi => by
  rw [zr_at 9 i hi]
  refine ⟨List.length_replicate, fun k hk => ?_⟩
  rw [rep_getD _ _ _ hk]
  omega⟩
theorem LandI.zrows {w0 w : World} {nh nb : Nat} {fb : Nat → List Int} {ah ab : Option Addr} {ch cb : Nat} {gh gb : List (Nat × Nat)} (h : LandI w0 (fun _ => List.replicate 256 0) fb nh nb ah ch gh ab cb gb w) : Rows2 w ah (zr nh) := by
  by_cases h0 : 0 < nh
  · obtain ⟨b, cur, rfl, hb, _, hc⟩ := h.outer h0
    refine rows_block hb fun i hi => ?_
    rw [zr_len] at hi
    rw [zr_at _ _ hi]
    refine ⟨_, _, by rw [hc i hi, List.length_replicate]; rfl, ?_⟩
    exact (h.ph i hi).ints rfl
  · exact ⟨fun i hi => by rw [zr_len] at hi; omega⟩
/-- What the list at place A becomes. -/
def cutRow (m : Nat) (v : Int) : List Int := if m < 256 then (List.replicate (256 - m) (0 : Int)).set 0 v else []
theorem cutRow_len (m : Nat) (v : Int) (hm : m ≤ 256) : (cutRow m v).length = 256 - m := by
  unfold cutRow
  split
  · simp
  · simp; omega
def cutN (n A m : Nat) (v : Int) : List (List Int) := (zr n).set A (cutRow m v)
theorem cutN_len (n A m : Nat) (v : Int) : (cutN n A m v).length = n := by unfold cutN; rw [List.length_set, zr_len]
theorem cutN_at (n A m : Nat) (v : Int) (hA : A < n) (i : Nat) (hi : i < n) : (cutN n A m v).getD i [] = if A = i then cutRow m v else List.replicate 256 (0 : Int) := by
  unfold cutN
  rw [getD_setL _ _ i _ (by rw [zr_len]; exact hA), zr_at n i hi]
theorem cutN_ok {k v : Int} {n A m : Nat} (hk : 0 < k) (hA : A < n) (hm : m ≤ 256) : okG k (cutN n A m v) ↔ n = 9 ∧ m = 0 ∧ 0 ≤ v ∧ v < k := by
  constructor
  · rintro ⟨h1, h2⟩
    rw [cutN_len] at h1
    have h3 := h2 A (by omega)
    rw [cutN_at n A m v hA A hA, if_pos rfl, cutRow_len m v hm] at h3
    have hm0 : m = 0 := by omega
    subst hm0
    have h4 := h3.2 0 (by omega)
    have e : (cutRow 0 v).getD 0 0 = v := by
      unfold cutRow
      rw [if_pos (by omega), getD_set _ _ _ _ (by simp), if_pos rfl]
    rw [e] at h4
    exact ⟨h1, rfl, h4⟩
  · rintro ⟨rfl, rfl, hv0, hv1⟩
    refine ⟨cutN_len _ _ _ _, fun i hi => ?_⟩
    rw [cutN_at 9 A 0 v hA i hi]
    split
    · refine ⟨cutRow_len 0 v (by omega), fun j hj => ?_⟩
      unfold cutRow
      rw [if_pos (by omega), getD_set _ _ _ _ (by simp)]
      split
      · exact ⟨hv0, hv1⟩
      · rw [rep_getD _ _ _ (by omega)]
        omega
    · refine ⟨List.length_replicate, fun j hj => ?_⟩
      rw [rep_getD _ _ _ hj]
      omega
/-- One of the lists is cut, and its first number is another one: both rows of lists, and what was there. -/
theorem LandI.cut {w0 w : World} {nh nb : Nat} {ah ab : Option Addr} {ch cb : Nat} {gh gb : List (Nat × Nat)} (h : LandI w0 (fun _ => List.replicate 256 0) (fun _ => List.replicate 256 0) nh nb ah ch gh ab cb gb w) {A m o' : Nat} {v : Int} (hA : A < nh) (hm : m ≤ 256) (ho : m = 256 ∨ o' = m) {b : Nat} (hb : ah = some ⟨b, 0, none⟩)
    {w' : World} (hw : w' = if m < 256 then (w.setCell ⟨b, A, none⟩ (.slice (some ⟨(gh.getD A (0, 0)).1, o', none⟩) (256 - m) (256 - m))).setCell ⟨(gh.getD A (0, 0)).1, m, none⟩ (.int .i64 v) else w.setCell ⟨b, A, none⟩ (.slice (some ⟨(gh.getD A (0, 0)).1, o', none⟩) (256 - m) (256 - m))) :
    Rows2 w' ah (cutN nh A m v) ∧ Rows2 w' ab (zr nb) ∧ Below w0.heap.size w0 w' := by
  obtain ⟨b', cur, e, hh, hblo, hc⟩ := h.outer (by omega)
  rw [hb] at e
  cases e
  have hgA := h.ph A hA
  generalize hG : (gh.getD A (0, 0)).1 = gA at *
  have hlo : w0.heap.size ≤ gA := by
    rw [← hG]
    have hl := h.lh
    rw [List.getD_eq_getElem?_getD, List.getElem?_eq_getElem (by omega)]
    exact h.low _ (List.mem_append_left _ (List.getElem_mem _))
  have hbg : b ≠ gA := fun e => by
    obtain ⟨cur', h1, _⟩ := hgA
    rw [← e, hh] at h1
    simp at h1
  obtain ⟨w1, hw1⟩ : ∃ w1, w1 = w.setCell ⟨b, A, none⟩ (.slice (some ⟨gA, o', none⟩) (256 - m) (256 - m)) := ⟨_, rfl⟩
  rw [← hw1] at hw
  have hh1 : w1.heap[b]? = some (.cells (cur.setIfInBounds A (.slice (some ⟨gA, o', none⟩) (256 - m) (256 - m))) 24 (0, 0)) := by rw [hw1]; exact heap_setCell_same w b A _ 24 _ hh
  have ho1 : ∀ k, k ≠ b → w1.heap[k]? = w.heap[k]? := fun k hk => by rw [hw1]; exact Below.heap_setCell w ⟨b, A, none⟩ _ k hk
  have hbel1 : Below w0.heap.size w0 w1 := by rw [hw1]; exact h.bel.setCell (p := ⟨b, A, none⟩) hblo _
  have pre1 : ∀ {k : Nat} {xs : List Int}, PreI w k xs → PreI w1 k xs := fun {k xs} hp => by
    rw [hw1]
    refine hp.other (fun e => ?_)
    obtain ⟨cur', h1, _⟩ := hp
    rw [e, hh] at h1
    simp at h1
  have hg1 := pre1 hgA
  clear hw1
  -- the world behind both
  have hh2 : w'.heap[b]? = some (.cells (cur.setIfInBounds A (.slice (some ⟨gA, o', none⟩) (256 - m) (256 - m))) 24 (0, 0)) := by
    rw [hw]; split
    · exact (Below.heap_setCell w1 ⟨gA, m, none⟩ _ b hbg).trans hh1
    · exact hh1
  have hbel2 : Below w0.heap.size w0 w' := by
    rw [hw]; split
    · exact hbel1.setCell (p := ⟨gA, m, none⟩) hlo _
    · exact hbel1
  have pre2 : ∀ {k : Nat} {xs : List Int}, k ≠ gA → PreI w k xs → PreI w' k xs := fun {k xs} hk hp => by
    rw [hw]; split
    · exact (pre1 hp).other hk
    · exact pre1 hp
  have hsz : A < cur.size := by
    have := hc A hA
    exact (Array.getElem?_eq_some_iff.1 this).1
  have hin : IntsAt w' (some ⟨gA, o', none⟩) (256 - m) (cutRow m v) := by
    refine ⟨cutRow_len m v hm, fun k hk => ⟨gA, o', rfl, ?_⟩⟩
    have hlt : m < 256 := by omega
    have ho2 : o' = m := by omega
    rw [hw, if_pos hlt]
    have hp := hg1.set m v
    have h1 := hp.cell (k := o' + k) (by rw [List.length_set, List.length_replicate]; omega)
    rw [h1, getD_set _ _ _ _ (by rw [List.length_replicate]; exact hlt)]
    unfold cutRow
    rw [if_pos hlt, getD_set _ _ _ _ (by rw [List.length_replicate]; omega)]
    by_cases e : k = 0
    · rw [if_pos (by omega), if_pos e.symm]
    · rw [if_neg (by omega), if_neg (Ne.symm e), rep_getD _ _ _ (by omega), rep_getD _ _ _ hk]
  have hnd := h.nd
  rw [List.map_append, List.nodup_append] at hnd
  have hl := h.lh
  have hlb := h.lb
  refine ⟨?_, ?_, hbel2⟩
  · rw [hb]
    refine rows_block hh2 fun i hi => ?_
    rw [cutN_len] at hi
    rw [cutN_at nh A m v hA i hi]
    by_cases e : A = i
    · rw [if_pos e, cutRow_len m v hm, ← e]
      exact ⟨_, _, Array.getElem?_setIfInBounds_self_of_lt hsz, hin⟩
    · rw [if_neg e]
      refine ⟨_, _, by rw [Array.getElem?_setIfInBounds_ne e, hc i hi, List.length_replicate]; rfl, ?_⟩
      refine (pre2 (fun e2 => ?_) (h.ph i hi)).ints rfl
      rw [← hG] at e2
      have hp := List.pairwise_iff_getElem.1 hnd.1
      simp only [List.getD_eq_getElem?_getD, List.getElem?_eq_getElem (show i < gh.length by omega), List.getElem?_eq_getElem (show A < gh.length by omega), Option.getD_some] at e2
      rcases Nat.lt_or_gt_of_ne e with h1 | h1
      · exact hp A i (by simp; omega) (by simp; omega) h1 (by simpa using e2.symm)
      · exact hp i A (by simp; omega) (by simp; omega) h1 (by simpa using e2)
  · by_cases h0 : 0 < nb
    · obtain ⟨b2, cur2, e2, hh3, _, hc2⟩ := h.swap.outer h0
      have hbb : b2 ≠ b := fun e3 => by
        refine h.ne b ?_ ?_
        · rw [hb]; rfl
        · rw [e2, e3]; rfl
      have hbg2 : b2 ≠ gA := fun e3 => by
        obtain ⟨cur', h1, _⟩ := hgA
        rw [← e3, hh3] at h1
        simp at h1
      rw [e2]
      have hh4 : w'.heap[b2]? = some (.cells cur2 24 (0, 0)) := by
        rw [hw]; split
        · exact (Below.heap_setCell w1 ⟨gA, m, none⟩ _ b2 hbg2).trans ((ho1 b2 hbb).trans hh3)
        · exact (ho1 b2 hbb).trans hh3
      refine rows_block hh4 fun i hi => ?_
      rw [zr_len] at hi
      rw [zr_at _ _ hi]
      refine ⟨_, _, by rw [hc2 i hi, List.length_replicate]; rfl, ?_⟩
      refine (pre2 (fun e3 => ?_) (h.pb i hi)).ints rfl
      refine hnd.2.2 gA ?_ _ ?_ e3.symm
      · rw [← hG, List.mem_map]
        refine ⟨gh.getD A (0, 0), ?_, rfl⟩
        rw [List.getD_eq_getElem?_getD, List.getElem?_eq_getElem (show A < gh.length by omega)]
        exact List.getElem_mem _
      · rw [List.mem_map]
        refine ⟨gb.getD i (0, 0), ?_, rfl⟩
        rw [List.getD_eq_getElem?_getD, List.getElem?_eq_getElem (show i < gb.length by omega)]
        exact List.getElem_mem _
    · exact ⟨fun i hi => by rw [zr_len] at hi; omega⟩
end Go.Proofs.Ytbdjgaagafnfaaa