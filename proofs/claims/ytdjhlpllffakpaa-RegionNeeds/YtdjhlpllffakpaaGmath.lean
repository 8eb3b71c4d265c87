/-
  Plain mathematics for the layer region: slots, their sectors, the header; no program is named here.
-/
import Derived.Test.YtdjhlpllffakpaaSmath
import Derived.Test.YtdjhlpllffakpaaDisk
import Derived.Test.YtdjhlpllffakpaaMem
set_option maxRecDepth 20000
namespace Go.Proofs.Ytdjhlpllffakpaa

/-- How many sectors so many bytes take. -/
def needS (n : Nat) : Nat := (n + 31) / 32
def needI (n : Int) : Int := if n < 1 then 0 else (n - 1) / 32 + 1
theorem needI_nat (n : Nat) : needI (n : Int) = (needS n : Int) := by
  unfold needI needS
  split <;> omega
/-- A region: its file, the slots' sectors, the slots' bytes. -/
structure Rho where
  x : Int
  z : Int
  sp : List Sp
  dat : List (List Int)
def Rho.file (ρ : Rho) : Fl := (2, ρ.x, ρ.z)
def covers (s : Sp) (i : Nat) : Bool := decide (s.1 ≤ i ∧ i < s.1 + s.2)
/-- How often a number stands in some spans. -/
def cnt (l : List Sp) (i : Nat) : Nat := l.countP (fun s => covers s i)
/-- Which sectors are some spans'. -/
def tkR (l : List Sp) : List Bool := (List.range 40).map fun i => decide (0 < cnt l i)
theorem tkR_len (l : List Sp) : (tkR l).length = 40 := by simp [tkR]
theorem tkR_at (l : List Sp) {i : Nat} (hi : i < 40) : (tkR l).getD i false = decide (0 < cnt l i) := by
  simp [tkR, List.getD_eq_getElem?_getD, hi]
def slotOk (s : Sp) (b : List Int) : Prop := (b = [] ∧ s = (0, 0)) ∨ (1 ≤ b.length ∧ s.2 = needS b.length ∧ 2 ≤ s.1 ∧ s.1 + s.2 ≤ 40)
/-- What a header promises. -/
structure GoodR (sp : List Sp) (dat : List (List Int)) : Prop where
  n : sp.length = 16
  m : dat.length = 16
  ok : ∀ k (h : k < sp.length) (h' : k < dat.length), slotOk sp[k] dat[k]
  once : ∀ i, cnt sp i ≤ 1
  fit : ∀ b ∈ dat, ∀ z ∈ b, 0 ≤ z ∧ z ≤ 255
theorem cnt_append (l m : List Sp) (i : Nat) : cnt (l ++ m) i = cnt l i + cnt m i := by simp [cnt, List.countP_append]
theorem cnt_pos {l : List Sp} {i : Nat} : 0 < cnt l i ↔ ∃ s ∈ l, s.1 ≤ i ∧ i < s.1 + s.2 := by
  simp [cnt, List.countP_pos_iff, covers]
theorem cnt_zero {l : List Sp} {i : Nat} (h : ∀ s ∈ l, ¬ (s.1 ≤ i ∧ i < s.1 + s.2)) : cnt l i = 0 := by
  rcases Nat.eq_zero_or_pos (cnt l i) with e | e
  · exact e
  · obtain ⟨s, hs, h1⟩ := cnt_pos.1 e
    exact absurd h1 (h s hs)
/-- In a list of free spans each number stands once, or not at all. -/
theorem cnt_free {h e : Nat} {T : List Bool} {l : List Sp} (H : IsSp h e T l) (i : Nat) : cnt l i = if h ≤ i ∧ i < e ∧ T.getD i false = false then 1 else 0 := by
  have hle : cnt l i ≤ 1 := by
    refine Nat.le_of_not_lt (fun h2 => ?_)
    have hp := H.gap
    clear H
    induction l with
    | nil => simp [cnt] at h2
    | cons a r ih =>
      rw [List.pairwise_cons] at hp
      have e1 : cnt (a :: r) i = cnt r i + (if covers a i then 1 else 0) := by simp [cnt, List.countP_cons]
      by_cases hc : covers a i = true
      · have hr : 0 < cnt r i := by rw [e1, if_pos hc] at h2; omega
        obtain ⟨s, hs, h3⟩ := cnt_pos.1 hr
        have := hp.1 s hs
        unfold covers at hc
        have := of_decide_eq_true hc
        omega
      · rw [e1, if_neg hc] at h2
        exact ih (by omega) hp.2
  split
  · rename_i h1
    obtain ⟨s, hs, h2⟩ := H.all i h1.1 h1.2.1 h1.2.2
    have := cnt_pos.2 ⟨s, hs, h2⟩
    omega
  · rename_i h1
    refine cnt_zero (fun s hs h2 => h1 ?_)
    have := H.ins s hs
    exact ⟨by omega, by omega, this.2.2.2 i h2.1 h2.2⟩
def freeR (sp : List Sp) : List Sp := spansS 2 (tkR sp)
theorem freeR_is (sp : List Sp) : IsSp 2 40 (tkR sp) (freeR sp) := by
  have := spans_is (h := 2) (T := tkR sp) (by rw [tkR_len]; omega)
  rwa [tkR_len] at this
theorem sp_in {sp : List Sp} {dat : List (List Int)} (H : GoodR sp dat) {s : Sp} (hs : s ∈ sp) : s = (0, 0) ∨ (2 ≤ s.1 ∧ s.1 + s.2 ≤ 40) := by
  obtain ⟨k, hk, rfl⟩ := List.mem_iff_getElem.1 hs
  rcases H.ok k hk (by rw [H.m, ← H.n]; exact hk) with h | h
  · exact .inl h.2
  · exact .inr ⟨h.2.2.1, h.2.2.2⟩
theorem sp_low {sp : List Sp} {dat : List (List Int)} (H : GoodR sp dat) {i : Nat} (hi : i < 2) : cnt sp i = 0 := cnt_zero (fun s hs h2 => by
  rcases sp_in H hs with rfl | h
  · simp only at h2; omega
  · omega)
/-- Header, slots and free sectors are all, each once. -/
theorem all_once {sp : List Sp} {dat : List (List Int)} (H : GoodR sp dat) {i : Nat} (hi : i < 40) : (if i < 2 then 1 else 0) + cnt sp i + cnt (freeR sp) i = 1 := by
  rw [cnt_free (freeR_is sp) i, tkR_at sp hi]
  have h1 := H.once i
  by_cases h2 : i < 2
  · rw [if_pos h2, sp_low H h2, if_neg (by omega)]
  · rw [if_neg h2]
    by_cases h3 : 0 < cnt sp i
    · rw [if_neg (by rw [decide_eq_true h3]; simp)]
      omega
    · rw [if_pos ⟨by omega, hi, by rw [decide_eq_false h3]⟩]
      omega
/-- All spans together. -/
theorem cnt_sum (l : List Sp) : ∀ n, (∀ s ∈ l, s.1 + s.2 ≤ n) → ((List.range n).map (cnt l)).sum = (l.map (·.2)).sum := by
  induction l with
  | nil =>
    intro n _
    have : (List.range n).map (cnt []) = List.replicate n 0 := by
      rw [List.eq_replicate_iff]
      refine ⟨by simp, fun b hb => ?_⟩
      simp [cnt] at hb
      exact hb.2.symm
    rw [this]
    simp
  | cons a r ih =>
    intro n hn
    have h1 := ih n (fun s hs => hn s (List.mem_cons_of_mem _ hs))
    have h2 := hn a (by simp)
    have e : ∀ i, cnt (a :: r) i = cnt r i + (if covers a i then 1 else 0) := fun i => by simp [cnt, List.countP_cons]
    have key : ∀ m, ((List.range m).map (cnt (a :: r))).sum = ((List.range m).map (cnt r)).sum + (min m (a.1 + a.2) - min m a.1) := by
      intro m
      induction m with
      | zero => simp
      | succ m ihm =>
        rw [List.range_succ, List.map_append, List.map_append, List.sum_append, List.sum_append, ihm]
        simp only [List.map_cons, List.map_nil, List.sum_cons, List.sum_nil]
        rw [e m]
        unfold covers
        by_cases hc : a.1 ≤ m ∧ m < a.1 + a.2
        · rw [decide_eq_true hc, if_pos rfl]; omega
        · rw [decide_eq_false hc, if_neg (by simp)]; omega
    rw [key n, h1]
    simp only [List.map_cons, List.sum_cons]
    omega
theorem room_free {sp : List Sp} {dat : List (List Int)} (H : GoodR sp dat) : roomS (freeR sp) + (sp.map (·.2)).sum = 38 := by
  have h1 := cnt_sum (freeR sp) 40 (fun s hs => ((freeR_is sp).ins s hs).2.2.1)
  have h2 := cnt_sum sp 40 (fun s hs => by
    rcases sp_in H hs with h | h
    · rw [h]; decide
    · exact h.2)
  have e : ∀ n, n ≤ 40 → ((List.range n).map (cnt sp)).sum + ((List.range n).map (cnt (freeR sp))).sum + min n 2 = n := by
    intro n
    induction n with
    | zero => intro _; simp
    | succ n ih =>
      intro hn
      have := ih (by omega)
      have h3 := all_once H (i := n) (by omega)
      rw [List.range_succ, List.map_append, List.map_append, List.sum_append, List.sum_append]
      simp only [List.map_cons, List.map_nil, List.sum_cons, List.sum_nil]
      split at h3 <;> omega
  have := e 40 (Nat.le_refl _)
  unfold roomS
  omega
/-! ### the document's Plan -/
/-- One change. -/
structure Cs where
  s : Int
  b : List Int
def chgAll : List (List Int) → List Nat → List Cs → Option (List (List Int))
  | d, _, [] => some d
  | d, had, c :: r => if 0 ≤ c.s ∧ c.s < 16 ∧ c.s.toNat ∉ had then chgAll (d.set c.s.toNat c.b) (c.s.toNat :: had) r else none
def needAll (d : List (List Int)) : Nat := (d.map fun b => needS b.length).sum
def planS (d : List (List Int)) (l : List Cs) : Int × List (List Int) :=
  match chgAll d [] l with
  | none => (1, [])
  | some d' => if 2 + needAll d' ≤ 40 then (0, d') else (11, [])
theorem chgAll_len : ∀ (l : List Cs) (d : List (List Int)) (had : List Nat) (d' : List (List Int)), chgAll d had l = some d' → d'.length = d.length
  | [], d, had, d', h => by cases h; rfl
  | c :: r, d, had, d', h => by
    unfold chgAll at h
    split at h
    · have := chgAll_len r _ _ _ h
      rw [this, List.length_set]
    · cases h
/-! ### the header's bytes, the file -/
def hdr1 (s : Sp) (b : List Int) : List Int := [(s.1 : Int), (s.2 : Int), (b.length % 256 : Nat), (b.length / 256 : Nat)]
def hdrR (sp : List Sp) (dat : List (List Int)) : List Int := ((sp.zip dat).map fun p => hdr1 p.1 p.2).flatten
/-- A block of a file. -/
def blk (l : List Bk) (f : Fl) (i : Nat) : List Int := (has l f (i : Int)).getD (List.replicate 32 0)
def blks (l : List Bk) (f : Fl) (i n : Nat) : List Int := ((List.range' i n).map (blk l f)).flatten
/-- A file tells a region. -/
structure OnD (l : List Bk) (ρ : Rho) : Prop where
  head : blks l ρ.file 0 2 = hdrR ρ.sp ρ.dat
  dat : ∀ k (h : k < ρ.sp.length) (h' : k < ρ.dat.length), (blks l ρ.file ρ.sp[k].1 ρ.sp[k].2).take ρ.dat[k].length = ρ.dat[k]
/-- The blocks of a plan, one after the other. -/
structure Pb where
  i : Nat
  b : List Int
  a : Option Addr
  c : Nat
def putAll (f : Fl) : List Bk → List Pb → List Bk
  | l, [] => l
  | l, p :: r => putAll f (put l f (p.i : Int) p.b) r
end Go.Proofs.Ytdjhlpllffakpaa
