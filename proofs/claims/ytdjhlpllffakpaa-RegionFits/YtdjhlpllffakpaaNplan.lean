/-
  Plain: sectors that are given out lie apart; what fits in number fits.
  The program's region as what is asked; Plan.
-/
import Derived.Test.YtdjhlpllffakpaaNgive
set_option maxRecDepth 20000
namespace Go.Proofs.Ytdjhlpllffakpaa
section
theorem tkR_get (l : List Sp) (i : Nat) : (tkR l)[i]? = if i < 40 then some (decide (0 < cnt l i)) else none := by
  unfold tkR
  rw [List.getElem?_map]
  by_cases h : i < 40
  · rw [if_pos h, List.getElem?_range h]; rfl
  · rw [if_neg h, List.getElem?_eq_none (by simpa using h)]; rfl
def PartOk (s : Sp) : Prop := s = (0, 0) ∨ (1 ≤ s.2 ∧ 2 ≤ s.1 ∧ s.1 + s.2 ≤ 40)
/-- Spans that lie apart. -/
structure Part (sp : List Sp) : Prop where
  ok : ∀ s ∈ sp, PartOk s
  once : ∀ i, cnt sp i ≤ 1
theorem cnt_sing (s : Sp) (i : Nat) : cnt [s] i = if s.1 ≤ i ∧ i < s.1 + s.2 then 1 else 0 := by
  simp [cnt, covers, List.countP_cons]
theorem cnt_zz (i : Nat) : cnt [(0, 0)] i = 0 := by rw [cnt_sing]; exact if_neg (by simp only; omega)
theorem mark_step {p : List Sp} {s : Sp} (hP : Part (p ++ [s])) : Q.doS 2 (tkR p) (s.1 : Int) (s.2 : Int) false true = tkR (p ++ [s]) := by
  have hc : ∀ i, cnt (p ++ [s]) i = cnt p i + cnt [s] i := fun i => cnt_append p [s] i
  rcases hP.ok s (by simp) with rfl | ⟨h1, h2, h3⟩
  · have : Q.mayB 2 (tkR p) ((0 : Nat) : Int) ((0 : Nat) : Int) false = false := by unfold Q.mayB; rw [decide_eq_false (by omega)]; rfl
    unfold Q.doS
    rw [this]
    apply List.ext_getElem?
    intro i
    rw [tkR_get, hc, cnt_zz, Nat.add_zero]
    exact tkR_get p i
  · have hfree : ∀ i, s.1 ≤ i → i < s.1 + s.2 → cnt p i = 0 := fun i hi1 hi2 => by
      have := hP.once i
      rw [hc, cnt_sing, if_pos ⟨hi1, hi2⟩] at this
      omega
    have hall : allS (tkR p) s.1 s.2 false = true := (allS_iff (by rw [tkR_len]; exact h3) false).2 (fun i hi1 hi2 => by
      rw [tkR_get, if_pos (by omega), hfree i hi1 hi2]; rfl)
    have hmay : Q.mayB 2 (tkR p) (s.1 : Int) (s.2 : Int) false = true := by
      unfold Q.mayB
      rw [tkR_len, decide_eq_true (by omega)]
      exact hall
    unfold Q.doS
    rw [hmay, if_pos rfl]
    apply List.ext_getElem?
    intro i
    show (setS (tkR p) s.1 s.2 true)[i]? = _
    rw [setS_at (by rw [tkR_len]; exact h3), tkR_get, tkR_get, hc, cnt_sing]
    by_cases hi : s.1 ≤ i ∧ i < s.1 + s.2
    · rw [if_pos hi, if_pos hi, if_pos (by omega), decide_eq_true (by omega)]
    · rw [if_neg hi, if_neg hi, Nat.add_zero]
theorem Part.sub {a b : List Sp} (h : Part (a ++ b)) : Part a :=
  ⟨fun s hs => h.ok s (List.mem_append_left _ hs), fun i => by have := h.once i; rw [cnt_append] at this; omega⟩
theorem marks_part : ∀ (l p : List Sp), Part (p ++ l) → marks (tkR p) l = tkR (p ++ l)
  | [], p, _ => by rw [List.append_nil]; rfl
  | s :: r, p, h => by
    have h' : Part ((p ++ [s]) ++ r) := by rw [List.append_assoc]; exact h
    rw [marks, mark_step h'.sub, marks_part r (p ++ [s]) h', List.append_assoc]
    rfl
theorem tkR_none : tkR [] = List.replicate 40 false := by decide
theorem marks_is {l : List Sp} (h : Part l) : marks (List.replicate 40 false) l = tkR l := by
  rw [← tkR_none, marks_part l [] h]
  rfl
/-! ### give -/
def dOf (s : Sm) : Option Addr × Nat × List Int := (s.a, s.c, s.b)
theorem giveS_dat : ∀ (sl : List Sm) (T : List Bool), (giveS T sl).2.map dOf = sl.map dOf
  | [], _ => rfl
  | s :: r, T => by
    unfold giveS
    split
    · rw [List.map_cons, giveS_dat r T]; rfl
    · split
      · rw [List.map_cons, giveS_dat r _]; rfl
      · rfl
theorem needS_zero {b : List Int} (h : needS b.length = 0) : b = [] := List.eq_nil_of_length_eq_zero (by unfold needS at h; omega)
theorem take_spec {T : List Bool} {n i : Nat} (h : takeS 2 T n = some i) : 2 ≤ i ∧ i + n ≤ T.length ∧ allS T i n false = true := by
  unfold takeS at h
  have h1 := List.mem_of_find?_eq_some h
  have h2 := List.find?_some h
  rw [List.mem_range'_1] at h1
  simp only [Bool.and_eq_true, decide_eq_true_eq] at h2
  exact ⟨h1.1, h2.1, h2.2⟩
theorem giveS_good : ∀ (sl : List Sm) (pre : List Sp), Part (pre ++ sl.map Sm.sp) → (∀ s ∈ sl, slotOk s.sp s.b ∨ s.sp = (0, 0)) → (giveS (tkR (pre ++ sl.map Sm.sp)) sl).1 = true →
    Part (pre ++ (giveS (tkR (pre ++ sl.map Sm.sp)) sl).2.map Sm.sp) ∧ ∀ s ∈ (giveS (tkR (pre ++ sl.map Sm.sp)) sl).2, slotOk s.sp s.b
  | [], pre, hP, _, _ => ⟨hP, fun s hs => by simp [giveS] at hs⟩
  | s :: r, pre, hP, hS, hT => by
    have hr : ∀ s ∈ r, slotOk s.sp s.b ∨ s.sp = (0, 0) := fun x hx => hS x (List.mem_cons_of_mem _ hx)
    have e1 : pre ++ (s :: r).map Sm.sp = (pre ++ [s.sp]) ++ r.map Sm.sp := by simp
    rw [e1] at hP hT ⊢
    by_cases hm : needS s.b.length = s.m
    · have hok : slotOk s.sp s.b := by
        rcases hS s (by simp) with h | h
        · exact h
        · have h0 : s.m = 0 := congrArg Prod.snd h
          exact .inl ⟨needS_zero (by omega), h⟩
      have eg : ∀ T, giveS T (s :: r) = ((giveS T r).1, s :: (giveS T r).2) := fun T => by rw [giveS, if_pos hm]
      rw [eg] at hT ⊢
      obtain ⟨h1, h2⟩ := giveS_good r (pre ++ [s.sp]) hP hr hT
      refine ⟨by simpa using h1, fun x hx => ?_⟩
      rcases List.mem_cons.1 hx with rfl | hx
      · exact hok
      · exact h2 x hx
    · have hz : s.sp = (0, 0) := by
        rcases hS s (by simp) with h | h
        · rcases h with ⟨hb, h⟩ | ⟨_, h, _⟩
          · exact h
          · exact absurd h.symm hm
        · exact h
      have h0 : s.m = 0 := congrArg Prod.snd hz
      have hn : 1 ≤ needS s.b.length := by omega
      obtain ⟨T, hTd⟩ : ∃ T, T = tkR ((pre ++ [s.sp]) ++ r.map Sm.sp) := ⟨_, rfl⟩
      rw [← hTd] at hT ⊢
      cases htake : takeS 2 T (needS s.b.length) with
      | none =>
        have htk : Q.tkS 2 T (needS s.b.length : Int) = (0, 7, T) := by
          unfold Q.tkS
          rw [if_neg (by omega), Int.toNat_natCast, htake]
        rw [giveS, if_neg hm, htk] at hT
        simp at hT
      | some i =>
        have htk : Q.tkS 2 T (needS s.b.length : Int) = ((i : Int), 0, setS T i (needS s.b.length) true) := by
          unfold Q.tkS
          rw [if_neg (by omega), Int.toNat_natCast, htake]
        have eg : giveS T (s :: r) = ((giveS (setS T i (needS s.b.length) true) r).1, ⟨i, needS s.b.length, s.a, s.c, s.b⟩ :: (giveS (setS T i (needS s.b.length) true) r).2) := by
          rw [giveS, if_neg hm, htk]
          simp
        rw [eg] at hT ⊢
        obtain ⟨g1, g2, g3⟩ := take_spec htake
        have hTl : T.length = 40 := by rw [hTd, tkR_len]
        have hfree : ∀ j, i ≤ j → j < i + needS s.b.length → cnt ((pre ++ [s.sp]) ++ r.map Sm.sp) j = 0 := fun j hj1 hj2 => by
          have := (allS_iff g2 false).1 g3 j hj1 hj2
          rw [hTd, tkR_get, if_pos (by omega)] at this
          have := of_decide_eq_false (Option.some.inj this)
          omega
        have hc : ∀ j, cnt ((pre ++ [(i, needS s.b.length)]) ++ r.map Sm.sp) j = cnt ((pre ++ [s.sp]) ++ r.map Sm.sp) j + (if i ≤ j ∧ j < i + needS s.b.length then 1 else 0) := fun j => by
          rw [cnt_append, cnt_append, cnt_append, cnt_append, hz, cnt_zz, cnt_sing]
          simp only
          omega
        have hP' : Part ((pre ++ [(i, needS s.b.length)]) ++ r.map Sm.sp) := by
          refine ⟨fun x hx => ?_, fun j => ?_⟩
          · rcases List.mem_append.1 hx with hx | hx
            · rcases List.mem_append.1 hx with hx | hx
              · exact hP.ok x (by simp [hx])
              · rw [List.mem_singleton.1 hx]
                exact .inr ⟨hn, g1, by simp only; omega⟩
            · exact hP.ok x (List.mem_append_right _ hx)
          · rw [hc]
            by_cases hj : i ≤ j ∧ j < i + needS s.b.length
            · rw [if_pos hj, hfree j hj.1 hj.2]; omega
            · rw [if_neg hj]; exact hP.once j
        have hT' : setS T i (needS s.b.length) true = tkR ((pre ++ [(i, needS s.b.length)]) ++ r.map Sm.sp) := by
          apply List.ext_getElem?
          intro j
          rw [setS_at g2, tkR_get, hc]
          by_cases hj : i ≤ j ∧ j < i + needS s.b.length
          · rw [if_pos hj, if_pos hj, if_pos (by omega), decide_eq_true (by omega)]
          · rw [if_neg hj, if_neg hj, Nat.add_zero, hTd, tkR_get]
        rw [hT'] at hT ⊢
        obtain ⟨k1, k2⟩ := giveS_good r (pre ++ [(i, needS s.b.length)]) hP' hr hT
        refine ⟨by simpa [Sm.sp] using k1, fun x hx => ?_⟩
        rcases List.mem_cons.1 hx with rfl | hx
        · refine .inr ⟨?_, rfl, g1, by simp only [Sm.sp]; omega⟩
          simp only
          unfold needS at hn
          omega
        · exact k2 x hx
/-! ### laid anew -/
def Tp (p : Nat) : List Bool := (List.range 40).map fun i => decide (2 ≤ i ∧ i < p)
theorem Tp_len (p : Nat) : (Tp p).length = 40 := by simp [Tp]
theorem Tp_get (p i : Nat) : (Tp p)[i]? = if i < 40 then some (decide (2 ≤ i ∧ i < p)) else none := by
  unfold Tp
  rw [List.getElem?_map]
  by_cases h : i < 40
  · rw [if_pos h, List.getElem?_range h]; rfl
  · rw [if_neg h, List.getElem?_eq_none (by simpa using h)]; rfl
theorem Tp_take {p n : Nat} (hp : 2 ≤ p) (hn : 1 ≤ n) (h : p + n ≤ 40) : takeS 2 (Tp p) n = some p := by
  unfold takeS
  rw [Tp_len]
  refine find_range' _ _ _ _ hp (by omega) ?_ (fun j h1 h2 => ?_)
  · rw [decide_eq_true h, Bool.true_and]
    exact (allS_iff (by rw [Tp_len]; exact h) false).2 (fun i hi1 hi2 => by rw [Tp_get, if_pos (by omega), decide_eq_false (by omega)])
  · have : allS (Tp p) j n false = false := by
      rw [Bool.eq_false_iff]
      intro ha
      have := (allS_iff (by rw [Tp_len]; omega) false).1 ha j (Nat.le_refl _) (by omega)
      rw [Tp_get, if_pos (by omega), decide_eq_true (by omega)] at this
      cases this
    rw [this, Bool.and_false]
theorem Tp_set {p n : Nat} (hp : 2 ≤ p) (h : p + n ≤ 40) : setS (Tp p) p n true = Tp (p + n) := by
  apply List.ext_getElem?
  intro i
  rw [setS_at (by rw [Tp_len]; exact h), Tp_get, Tp_get]
  by_cases hi : p ≤ i ∧ i < p + n
  · rw [if_pos hi, if_pos (by omega), decide_eq_true (by omega)]
  · rw [if_neg hi]
    by_cases h4 : i < 40
    · rw [if_pos h4, if_pos h4]
      congr 1
      rw [decide_eq_decide]
      omega
    · rw [if_neg h4, if_neg h4]
theorem giveS_zero : ∀ (sl : List Sm) (p : Nat), 2 ≤ p → (∀ s ∈ sl, s.sp = (0, 0)) → p + needAll (sl.map Sm.b) ≤ 40 → (giveS (Tp p) sl).2.map Sm.sp = layS p (sl.map Sm.b)
  | [], _, _, _, _ => rfl
  | s :: r, p, hp, hz, hl => by
    have hr : ∀ x ∈ r, x.sp = (0, 0) := fun x hx => hz x (List.mem_cons_of_mem _ hx)
    have h0 : s.sp = (0, 0) := hz s (by simp)
    have hm0 : s.m = 0 := congrArg Prod.snd h0
    have e : needAll ((s :: r).map Sm.b) = needS s.b.length + needAll (r.map Sm.b) := by simp [needAll]
    rw [e] at hl
    by_cases hm : needS s.b.length = s.m
    · have hb : s.b = [] := needS_zero (by omega)
      have hn0 : needS s.b.length = 0 := by omega
      rw [giveS, if_pos hm, List.map_cons, List.map_cons, layS, if_pos hb, hn0, Nat.add_zero, giveS_zero r p hp hr (by omega), h0]
    · have hb : ¬ s.b = [] := fun h => hm (by rw [h, hm0]; rfl)
      have hn : 1 ≤ needS s.b.length := by omega
      have htk : Q.tkS 2 (Tp p) (needS s.b.length : Int) = ((p : Int), 0, Tp (p + needS s.b.length)) := by
        unfold Q.tkS
        rw [if_neg (by omega), Int.toNat_natCast, Tp_take hp hn (by omega)]
        simp only
        rw [Tp_set hp (by omega)]
      rw [giveS, if_neg hm, htk]
      simp only [if_true, Int.toNat_natCast]
      rw [List.map_cons, List.map_cons, layS, if_neg hb, giveS_zero r (p + needS s.b.length) (by omega) hr (by omega)]
      rfl
theorem dropAll_dat (sl : List Sm) : (dropAll sl).map dOf = sl.map dOf := by
  unfold dropAll
  rw [List.map_map]
  rfl
theorem dat_b {l l' : List Sm} (h : l.map dOf = l'.map dOf) : l.map Sm.b = l'.map Sm.b := by
  have := congrArg (List.map (fun (d : Option Addr × Nat × List Int) => d.2.2)) h
  rw [List.map_map, List.map_map] at this
  exact this
theorem dat_len {l l' : List Sm} (h : l.map dOf = l'.map dOf) : l.length = l'.length := by
  have := congrArg List.length h
  rwa [List.length_map, List.length_map] at this
theorem layF_dat (sl : List Sm) : (layF sl).map dOf = sl.map dOf := by
  unfold layF
  split
  · exact giveS_dat _ _
  · rw [giveS_dat, dropAll_dat, giveS_dat]
/-- Whatever fits in number is laid. -/
theorem layF_good {sl : List Sm} (hn : sl.length = 16) (hP : Part (sl.map Sm.sp)) (hS : ∀ s ∈ sl, slotOk s.sp s.b ∨ s.sp = (0, 0)) (hl : 2 + needAll (sl.map Sm.b) ≤ 40) (hf : ∀ s ∈ sl, ∀ y ∈ s.b, 0 ≤ y ∧ y ≤ 255) : GoodR ((layF sl).map Sm.sp) (sl.map Sm.b) := by
  have hf' : ∀ b ∈ sl.map Sm.b, ∀ y ∈ b, 0 ≤ y ∧ y ≤ 255 := fun b hb => by
    obtain ⟨s, hs, rfl⟩ := List.mem_map.1 hb
    exact hf s hs
  have hb := dat_b (layF_dat sl)
  have hlen := dat_len (layF_dat sl)
  unfold layF at hb hlen ⊢
  split
  · rename_i h1
    rw [if_pos h1] at hb hlen
    rw [marks_is hP] at h1 hb hlen ⊢
    obtain ⟨k1, k2⟩ := giveS_good sl [] hP hS h1
    rw [List.nil_append, List.nil_append] at k1
    rw [List.nil_append] at k2
    refine ⟨by rw [List.length_map, hlen, hn], by rw [List.length_map, hn], fun k h h' => ?_, k1.once, hf'⟩
    have e : (sl.map Sm.b)[k] = ((giveS (tkR (sl.map Sm.sp)) sl).2.map Sm.b)[k]'(by rw [List.length_map] at h ⊢; exact h) := by
      congr 1
      exact hb.symm
    rw [e, List.getElem_map, List.getElem_map]
    exact k2 _ (List.getElem_mem _)
  · rename_i h1
    rw [if_neg h1] at hb hlen
    obtain ⟨q, hq⟩ : ∃ q, q = (giveS (marks (List.replicate 40 false) (sl.map Sm.sp)) sl).2 := ⟨_, rfl⟩
    rw [← hq] at hb hlen ⊢
    have hqd : q.map dOf = sl.map dOf := by rw [hq]; exact giveS_dat _ _
    have hzz : ∀ s ∈ dropAll q, s.sp = (0, 0) := fun s hs => by
      unfold dropAll at hs
      obtain ⟨x, _, rfl⟩ := List.mem_map.1 hs
      rfl
    have hdb : (dropAll q).map Sm.b = sl.map Sm.b := dat_b ((dropAll_dat q).trans hqd)
    have hsp : (dropAll q).map Sm.sp = List.replicate (dropAll q).length (0, 0) := by
      rw [List.eq_replicate_iff]
      refine ⟨by rw [List.length_map], fun x hx => ?_⟩
      obtain ⟨s, hs, rfl⟩ := List.mem_map.1 hx
      exact hzz s hs
    have hmk : marks (List.replicate 40 false) ((dropAll q).map Sm.sp) = Tp 2 := by
      have hPz : Part ((dropAll q).map Sm.sp) := by
        refine ⟨fun x hx => ?_, fun i => ?_⟩
        · obtain ⟨s, hs, rfl⟩ := List.mem_map.1 hx
          exact .inl (hzz s hs)
        · rw [cnt_zero (fun x hx h2 => by
            obtain ⟨s, hs, rfl⟩ := List.mem_map.1 hx
            rw [hzz s hs] at h2
            simp only at h2
            omega)]
          omega
      rw [marks_is hPz]
      apply List.ext_getElem?
      intro i
      rw [tkR_get, Tp_get, cnt_zero (fun x hx h2 => by
            obtain ⟨s, hs, rfl⟩ := List.mem_map.1 hx
            rw [hzz s hs] at h2
            simp only at h2
            omega)]
      congr 2
      rw [decide_eq_decide]
      omega
    rw [hmk, giveS_zero _ 2 (by omega) hzz (by rw [hdb]; exact hl), hdb]
    exact layS_good (by rw [List.length_map, hn]) hl hf'
end
section
open Go.RowKit

/-- A region in memory, within F. -/
structure RGs (F : Nat → Prop) (w : World) (g : Nat) (ρ : Rho) : Prop where
  it : ∃ sl, RB w g ρ.x ρ.z sl ∧ (∀ s ∈ sl, Dt w s ∧ (s.b ≠ [] → ∃ b off, s.a = some ⟨b, off, none⟩ ∧ F b)) ∧ sl.map Sm.sp = ρ.sp ∧ sl.map Sm.b = ρ.dat
  good : GoodR ρ.sp ρ.dat
  ix : I64 ρ.x
  iz : I64 ρ.z
  inF : F g
  lt : ∀ k, F k → k < w.heap.size
theorem bytes_keep {w w' : World} {a : Option Addr} {n : Nat} {xs : List Int} (h : Bytes w a n xs) (hk : xs ≠ [] → ∀ b off, a = some ⟨b, off, none⟩ → w'.heap[b]? = w.heap[b]?) : Bytes w' a n xs := by
  refine ⟨h.n, ?_, h.fit⟩
  rcases h.cells with e | ⟨b, off, e, hc⟩
  · exact .inl e
  · by_cases hx : xs = []
    · exact .inl hx
    · exact .inr ⟨b, off, e, fun k hk' => (World.cell?_of_block (a := ⟨b, off + k, none⟩) (hk hx b off e)).trans (hc k hk')⟩
theorem RGs.keep {F : Nat → Prop} {w w' : World} {g : Nat} {ρ : Rho} (H : RGs F w g ρ) (hk : ∀ k, F k → w'.heap[k]? = w.heap[k]?) (hs : w.heap.size ≤ w'.heap.size) : RGs F w' g ρ := by
  obtain ⟨sl, h1, h2, h3, h4⟩ := H.it
  refine ⟨⟨sl, h1.keep (hk g H.inF), fun s hs => ?_, h3, h4⟩, H.good, H.ix, H.iz, H.inF, fun k h => Nat.lt_of_lt_of_le (H.lt k h) hs⟩
  obtain ⟨⟨q1, q2, q3⟩, q4⟩ := h2 s hs
  refine ⟨⟨bytes_keep q1 (fun hx b off e => ?_), q2, q3⟩, q4⟩
  obtain ⟨b', off', e', hF⟩ := q4 hx
  rw [e] at e'
  cases e'
  exact hk b hF
theorem bytes_chg {w w' : World} {g : Nat} {x z : Int} {l : List Sm} (H : RB w g x z l) {a : Option Addr} {n : Nat} {xs : List Int} (h : Bytes w a n xs) (hC : Chg (fun k => k = g) w w') : Bytes w' a n xs :=
  bytes_keep h (fun hx b off e => by
    rcases h.cells with e0 | ⟨b', off', e', hc⟩
    · exact absurd e0 hx
    · rw [e] at e'
      cases e'
      have h0 := hc 0 (List.length_pos_iff.2 hx)
      refine hC.block b (World.block_lt_of_cell? w _ h0) (fun eq => ?_)
      subst eq
      exact H.no_u8 h0)
theorem good_sl {sp : List Sp} {dat : List (List Int)} {sl : List Sm} (hG : GoodR sp dat) (h3 : sl.map Sm.sp = sp) (h4 : sl.map Sm.b = dat) : ∀ s ∈ sl, slotOk s.sp s.b := fun s hs => by
  obtain ⟨k, hk, rfl⟩ := List.mem_iff_getElem.1 hs
  have := hG.ok k (by rw [← h3, List.length_map]; exact hk) (by rw [← h4, List.length_map]; exact hk)
  simp only [← h3, ← h4, List.getElem_map] at this
  exact this
theorem slotOk_fit {s : Sp} {b : List Int} (h : slotOk s b) : s.1 < 256 ∧ s.2 < 256 ∧ b.length ≤ 2000 ∧ s.2 = needS b.length ∧ PartOk s := by
  rcases h with ⟨rfl, rfl⟩ | ⟨h1, h2, h3, h4⟩
  · exact ⟨by decide, by decide, by simp, rfl, .inl rfl⟩
  · have h5 : 1 ≤ s.2 := by rw [h2]; unfold needS; omega
    refine ⟨by omega, by omega, ?_, h2, .inr ⟨h5, h3, h4⟩⟩
    unfold needS at h2
    omega
theorem fit_of {sl : List Sm} (h : ∀ s ∈ sl, slotOk s.sp s.b) : Fit sl := fun s hs => by
  obtain ⟨h1, h2, h3, h4, _⟩ := slotOk_fit (h s hs)
  exact ⟨h1, h2, h3, h4⟩
theorem part_of {sp : List Sp} {dat : List (List Int)} (hG : GoodR sp dat) : Part sp := ⟨fun s hs => by
  obtain ⟨k, hk, rfl⟩ := List.mem_iff_getElem.1 hs
  exact (slotOk_fit (hG.ok k hk (by rw [hG.m, ← hG.n]; exact hk))).2.2.2.2, hG.once⟩
theorem cnt_le_of : ∀ (l l' : List Sm), l'.length = l.length → (∀ k (h : k < l'.length) (h' : k < l.length), l'[k].sp = l[k].sp ∨ l'[k].sp = (0, 0)) → ∀ i, cnt (l'.map Sm.sp) i ≤ cnt (l.map Sm.sp) i
  | [], l', hl, _, i => by rw [List.eq_nil_of_length_eq_zero hl]; exact Nat.le_refl _
  | a :: r, [], hl, _, i => by simp at hl
  | a :: r, b :: r', hl, h, i => by
    have ih := cnt_le_of r r' (by simpa using hl) (fun k h1 h2 => h (k + 1) (by simpa using h1) (by simpa using h2)) i
    have h0 := h 0 (by simp) (by simp)
    simp only [List.getElem_cons_zero] at h0
    have e : ∀ (x : Sp) (m : List Sp), cnt (x :: m) i = cnt m i + (if covers x i then 1 else 0) := fun x m => by simp [cnt, List.countP_cons]
    rw [List.map_cons, List.map_cons, e, e]
    rcases h0 with h0 | h0
    · rw [h0]; omega
    · rw [h0, covers_nil]
      simp only [Bool.false_eq_true, if_false]
      omega
theorem find_once : ∀ (l : List Sm) (i k : Nat) (h : k < l.length), cnt (l.map Sm.sp) i ≤ 1 → covers l[k].sp i = true → l.find? (fun s => covers s.sp i) = some l[k]
  | [], _, _, h, _, _ => absurd h (Nat.not_lt_zero _)
  | a :: r, i, 0, _, _, hc => by
    rw [List.find?_cons]
    simp only [List.getElem_cons_zero] at hc ⊢
    rw [hc]
  | a :: r, i, k + 1, h, ho, hc => by
    have e : cnt ((a :: r).map Sm.sp) i = cnt (r.map Sm.sp) i + (if covers a.sp i then 1 else 0) := by simp [cnt, List.countP_cons]
    simp only [List.getElem_cons_succ] at hc ⊢
    have hk : k < r.length := by simpa using h
    have hpos : 0 < cnt (r.map Sm.sp) i := cnt_pos.2 ⟨r[k].sp, List.mem_map.2 ⟨_, List.getElem_mem hk, rfl⟩, of_decide_eq_true hc⟩
    have ha : covers a.sp i = false := by
      cases hx : covers a.sp i with
      | false => rfl
      | true => rw [e, hx, if_pos rfl] at ho; omega
    rw [List.find?_cons, ha]
    exact find_once r i k hk (by rw [e, ha] at ho; simpa using ho) hc
theorem blkL_mem {l : List Sm} {n i : Nat} {b : List Int} : (i, b) ∈ blkL l n ↔ i < n ∧ secAt l i = some b := by
  unfold blkL
  rw [List.mem_filterMap]
  constructor
  · rintro ⟨j, hj, e⟩
    rw [List.mem_range] at hj
    cases hs : secAt l j with
    | none => rw [hs] at e; cases e
    | some c =>
      rw [hs] at e
      simp only [Option.map_some, Option.some.injEq, Prod.mk.injEq] at e
      obtain ⟨rfl, rfl⟩ := e
      exact ⟨hj, hs⟩
  · rintro ⟨h1, h2⟩
    exact ⟨i, List.mem_range.2 h1, by rw [h2]; rfl⟩
theorem blkL_fst (l : List Sm) : ∀ n, ((blkL l n).map (·.1)).Nodup ∧ ∀ i ∈ (blkL l n).map (·.1), i < n
  | 0 => ⟨by simp [blkL], fun i hi => by simp [blkL] at hi⟩
  | n + 1 => by
    obtain ⟨h1, h2⟩ := blkL_fst l n
    rw [blkL_next, List.map_append]
    cases hs : secAt l n with
    | none =>
      simp only [Option.map_none, Option.toList_none, List.map_nil, List.append_nil]
      exact ⟨h1, fun i hi => Nat.lt_succ_of_lt (h2 i hi)⟩
    | some b =>
      simp only [Option.map_some, Option.toList_some, List.map_cons, List.map_nil]
      refine ⟨?_, fun i hi => ?_⟩
      · rw [List.nodup_append]
        refine ⟨h1, by simp, fun a ha c hc e => ?_⟩
        rw [List.mem_singleton] at hc
        have := h2 a ha
        omega
      · rcases List.mem_append.1 hi with h | h
        · exact Nat.lt_succ_of_lt (h2 i h)
        · rw [List.mem_singleton] at h; omega
theorem secAt_fit {l : List Sm} (hF : Fit l) (hb : ∀ s ∈ l, ∀ y ∈ s.b, 0 ≤ y ∧ y ≤ 255) {i : Nat} {b : List Int} (h : secAt l i = some b) : b.length = 32 ∧ ∀ z ∈ b, 0 ≤ z ∧ z ≤ 255 := by
  unfold secAt at h
  split at h
  · obtain rfl := Option.some.inj h
    exact ⟨secP_len _ _, secP_fit (hdrL_fit hF.small) _⟩
  · cases hf : l.find? (fun s => covers s.sp i) with
    | none => rw [hf] at h; cases h
    | some s =>
      rw [hf] at h
      obtain rfl := Option.some.inj h
      exact ⟨secP_len _ _, secP_fit (hb s (List.mem_of_find?_eq_some hf)) _⟩
/-- What a plan's blocks are, and what they leave. -/
theorem plan_put {l : List Sm} {ps : List Pb} (hG : GoodR (l.map Sm.sp) (l.map Sm.b)) (hps : ps.map (fun p => (p.i, p.b)) = blkL l 40) (x z : Int) :
    PsOk ps ∧ ∀ (ρ : Rho) L, ρ.x = x → ρ.z = z → OnD L ρ → OnD (putAll ρ.file L ps) ⟨x, z, l.map Sm.sp, l.map Sm.b⟩ := by
  have hS := good_sl hG rfl rfl
  have hF := fit_of hS
  have hn : l.length = 16 := by have := hG.n; rwa [List.length_map] at this
  have hb : ∀ s ∈ l, ∀ y ∈ s.b, 0 ≤ y ∧ y ≤ 255 := fun s hs => hG.fit s.b (List.mem_map.2 ⟨s, hs, rfl⟩)
  have hmem : ∀ i b, i < 40 → secAt l i = some b → ∃ p ∈ ps, p.i = i ∧ p.b = b := fun i b h1 h2 => by
    have := (blkL_mem (n := 40)).2 ⟨h1, h2⟩
    rw [← hps] at this
    obtain ⟨p, hp, e⟩ := List.mem_map.1 this
    simp only [Prod.mk.injEq] at e
    exact ⟨p, hp, e.1, e.2⟩
  have hok : PsOk ps := by
    refine ⟨fun p hp => ?_, ?_⟩
    · have : (p.i, p.b) ∈ blkL l 40 := by rw [← hps]; exact List.mem_map.2 ⟨p, hp, rfl⟩
      obtain ⟨h1, h2⟩ := blkL_mem.1 this
      exact ⟨h1, secAt_fit hF hb h2⟩
    · have := (blkL_fst l 40).1
      rw [← hps, List.map_map] at this
      exact this
  refine ⟨hok, fun ρ L hx hz hon => ?_⟩
  subst hx hz
  refine onD_put hon hok hG (fun i hi => ?_) (fun k h h' => .inl (fun j hj => ?_))
  · obtain ⟨p, hp, e1, e2⟩ := hmem i (secP (hdrL l) i) (by omega) (by unfold secAt; rw [if_pos hi])
    refine ⟨p, hp, e1, ?_⟩
    rw [e2, ← hdrL_R]
    have hlen : (sec (hdrL l) i).length = 32 := by
      unfold sec
      rw [List.length_take, List.length_drop, hdrL_len, hn]
      omega
    unfold secP
    rw [hlen]
    simp
  · have hk : k < l.length := by rw [List.length_map] at h; exact h
    rw [List.getElem_map] at hj ⊢
    rw [List.getElem_map]
    obtain ⟨_, _, _, _, hp⟩ := slotOk_fit (hS l[k] (List.getElem_mem hk))
    have hp' : 2 ≤ l[k].sp.1 ∧ l[k].sp.1 + l[k].sp.2 ≤ 40 := by
      rcases hp with e | ⟨_, h2, h3⟩
      · rw [e] at hj; simp at hj
      · exact ⟨h2, h3⟩
    have hcov : covers l[k].sp (l[k].sp.1 + j) = true := decide_eq_true ⟨by omega, by omega⟩
    obtain ⟨p, hp, e1, e2⟩ := hmem (l[k].sp.1 + j) (secP l[k].b j) (by omega) (by
      unfold secAt
      rw [if_neg (by omega), find_once l _ k hk (hG.once _) hcov]
      simp only [Option.map_some]
      congr 2
      show l[k].f + j - l[k].f = j
      omega)
    exact ⟨p, hp, e1, by rw [e2]; exact secP_take _ _⟩
theorem len_le {d : List (List Int)} (h : 2 + needAll d ≤ 40) {b : List Int} (hb : b ∈ d) : b.length ≤ 1216 := by
  have : needS b.length ≤ needAll d := by
    unfold needAll
    have : ∀ (l : List Nat) (x : Nat), x ∈ l → x ≤ l.sum := fun l x hx => by
      induction l with
      | nil => simp at hx
      | cons a r ih =>
        rw [List.sum_cons]
        rcases List.mem_cons.1 hx with rfl | hx
        · omega
        · have := ih hx; omega
    exact this _ _ (List.mem_map.2 ⟨b, hb, rfl⟩)
  unfold needS at this
  omega
end
end Go.Proofs.Ytdjhlpllffakpaa
