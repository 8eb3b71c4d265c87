/-
  Plain: fields of cells as lists of noughts and ones, the cells about one, what marking cell by cell makes.
-/
import Derived.Test.YtajjaeaknonmfaaPfld
import Derived.Test.YtajjaeaknonmfaaPeach
set_option maxRecDepth 20000
namespace Go.Proofs.Ytajjaeaknonmfaa
open C G Go.RowKit

/-- The place of a cell in a field. -/
def fpl (x y z : Int) : Nat := ((y - 5) * 400 + (z + 2) * 20 + (x + 2)).toNat
def inF (x y z : Int) : Prop := (-2 ≤ x ∧ x ≤ 17) ∧ (5 ≤ y ∧ y ≤ 30) ∧ (-2 ≤ z ∧ z ≤ 17)
def inB (d x y z : Int) : Bool := decide ((-d ≤ x ∧ x ≤ 15 + d) ∧ (6 ≤ y ∧ y ≤ 29) ∧ (-d ≤ z ∧ z ≤ 15 + d))
theorem inB_iff {d x y z : Int} : inB d x y z = true ↔ (-d ≤ x ∧ x ≤ 15 + d) ∧ (6 ≤ y ∧ y ≤ 29) ∧ (-d ≤ z ∧ z ≤ 15 + d) := by unfold inB; rw [decide_eq_true_iff]
theorem fpl_of {x y z : Int} {X Y Z : Nat} (hx : x + 2 = (X : Int)) (hy : y - 5 = (Y : Int)) (hz : z + 2 = (Z : Int)) : fpl x y z = Y * 400 + Z * 20 + X := by unfold fpl; omega
theorem fpl_inj {x y z x' y' z' : Int} (h : inF x y z) (h' : inF x' y' z') (e : fpl x y z = fpl x' y' z') : x = x' ∧ y = y' ∧ z = z' := by
  unfold fpl at e
  unfold inF at h h'
  omega
theorem fpl_lt {x y z : Int} (h : inF x y z) : fpl x y z < 10400 := by
  unfold fpl
  unfold inF at h
  omega
/-- A list holds the cells of f that are in the chunk, or at most d beyond it. -/
structure FIs (fs : List Int) (d : Int) (f : Fld) : Prop where
  len : fs.length = 10400
  has : ∀ x y z, inF x y z → fs.getD (fpl x y z) 0 = bi (inB d x y z && f x y z)
theorem FIs.bits {fs : List Int} {d : Int} {f : Fld} (h : FIs fs d f) : Bits fs := fun j => by
  by_cases hj : j < 10400
  · have := h.has ((j : Int) % 20 - 2) ((j : Int) / 400 + 5) ((j : Int) / 20 % 20 - 2) (by unfold inF; omega)
    rw [show fpl ((j : Int) % 20 - 2) ((j : Int) / 400 + 5) ((j : Int) / 20 % 20 - 2) = j by unfold fpl; omega] at this
    rw [this]
    rcases bi_eq (inB d ((j : Int) % 20 - 2) ((j : Int) / 400 + 5) ((j : Int) / 20 % 20 - 2) && f ((j : Int) % 20 - 2) ((j : Int) / 400 + 5) ((j : Int) / 20 % 20 - 2)) with ⟨e, _⟩ | ⟨e, _⟩ <;> rw [e] <;> omega
  · rw [List.getD_eq_getElem?_getD, List.getElem?_eq_none (by rw [h.len]; omega)]
    simp
theorem FIs.congr {fs : List Int} {d : Int} {f f' : Fld} (h : FIs fs d f) (e : ∀ x y z, inB d x y z = true → f x y z = f' x y z) : FIs fs d f' :=
  ⟨h.len, fun x y z hi => by
    rw [h.has x y z hi]
    rcases hb : inB d x y z with _ | _
    · rfl
    · rw [e x y z hb]⟩
/-! ### marking cell by cell -/
def mkL (f : Fld) (l : List P3) (zs : List Int) : List Int := l.foldl (fun fs p => if f p.x p.y p.z = true then fs.set (fpl p.x p.y p.z) 1 else fs) zs
theorem mkL_snoc (f : Fld) (l : List P3) (p : P3) (zs : List Int) : mkL f (l ++ [p]) zs = if f p.x p.y p.z = true then (mkL f l zs).set (fpl p.x p.y p.z) 1 else mkL f l zs := by simp [mkL]
theorem mkL_len (f : Fld) : ∀ (l : List P3) (zs : List Int), (mkL f l zs).length = zs.length
  | [], _ => rfl
  | p :: l, zs => by
    show (mkL f l (if f p.x p.y p.z = true then zs.set (fpl p.x p.y p.z) 1 else zs)).length = _
    rw [mkL_len f l]
    split <;> simp
theorem mkL_at (f : Fld) {x y z : Int} (h : inF x y z) : ∀ (l : List P3) (zs : List Int), (∀ p ∈ l, inF p.x p.y p.z) → zs.length = 10400 →
    ((⟨x, y, z⟩ ∈ l ∧ f x y z = true) ∨ zs.getD (fpl x y z) 0 = 1 → (mkL f l zs).getD (fpl x y z) 0 = 1) ∧ (¬ (⟨x, y, z⟩ ∈ l ∧ f x y z = true) → (mkL f l zs).getD (fpl x y z) 0 = zs.getD (fpl x y z) 0)
  | [], zs, _, _ => ⟨fun h => (by rcases h with ⟨h, _⟩ | h; cases h; exact h), fun _ => rfl⟩
  | p :: l, zs, hl, hz => by
    have hp := hl p (List.mem_cons_self ..)
    have e : mkL f (p :: l) zs = mkL f l (if f p.x p.y p.z = true then zs.set (fpl p.x p.y p.z) 1 else zs) := rfl
    rw [e]
    have ih := mkL_at f h l (if f p.x p.y p.z = true then zs.set (fpl p.x p.y p.z) 1 else zs) (fun q hq => hl q (List.mem_cons_of_mem _ hq)) (by split <;> simp [hz])
    have hlt : fpl p.x p.y p.z < zs.length := by rw [hz]; exact fpl_lt hp
    by_cases hpe : p = ⟨x, y, z⟩
    · subst hpe
      by_cases hf : f x y z = true
      · rw [if_pos hf] at ih ⊢
        refine ⟨fun _ => ih.1 (.inr (C.getD_set_self zs _ _ hlt)), fun hn => absurd ⟨List.mem_cons_self .., hf⟩ hn⟩
      · rw [if_neg hf] at ih ⊢
        refine ⟨fun hh => ?_, fun _ => ih.2 (fun hh => hf hh.2)⟩
        rcases hh with ⟨_, hh⟩ | hh
        · exact absurd hh hf
        · exact ih.1 (.inr hh)
    · have hne : fpl p.x p.y p.z ≠ fpl x y z := fun e' => by
        obtain ⟨e1, e2, e3⟩ := fpl_inj hp h e'
        exact hpe (by cases p; simp_all)
      have hs : (if f p.x p.y p.z = true then zs.set (fpl p.x p.y p.z) 1 else zs).getD (fpl x y z) 0 = zs.getD (fpl x y z) 0 := by
        split
        · exact C.getD_set_ne zs 1 hne
        · rfl
      rw [hs] at ih
      refine ⟨fun hh => ih.1 ?_, fun hh => ih.2 fun h2 => hh ⟨List.mem_cons_of_mem _ h2.1, h2.2⟩⟩
      rcases hh with ⟨hm, hf⟩ | hh
      · rcases List.mem_cons.1 hm with hm | hm
        · exact absurd hm.symm hpe
        · exact .inl ⟨hm, hf⟩
      · exact .inr hh
/-- The cells of the chunk, and at most d beyond it. -/
def boxD (d : Int) : List P3 := upto (-d) 6 (-d) (16 + 2 * d).toNat (16 + 2 * d).toNat (24 * (16 + 2 * d).toNat * (16 + 2 * d).toNat)
theorem mem_boxD {d : Int} (h0 : 0 ≤ d) {p : P3} : p ∈ boxD d ↔ inB d p.x p.y p.z = true := by
  unfold boxD
  rw [mem_upto, inB_iff]
  omega
theorem mk_is (f : Fld) (d : Int) (h0 : 0 ≤ d) (h2 : d ≤ 2) (zs : List Int) (hz : zs = List.replicate 10400 0) : FIs (mkL f (boxD d) zs) d f := by
  have hl : zs.length = 10400 := by rw [hz, List.length_replicate]
  refine ⟨by rw [mkL_len, hl], fun x y z hi => ?_⟩
  have hin : ∀ p ∈ boxD d, inF p.x p.y p.z := fun p hp => by
    have := inB_iff.1 ((mem_boxD h0).1 hp)
    unfold inF
    omega
  have h1 := mkL_at f hi (boxD d) zs hin hl
  have hzz : zs.getD (fpl x y z) 0 = 0 := by
    rw [hz, List.getD_eq_getElem?_getD, List.getElem?_replicate_of_lt (fpl_lt hi)]
    rfl
  rcases hb : inB d x y z with _ | _
  · rw [h1.2 (fun hh => by
      have h9 := (mem_boxD h0).1 hh.1
      simp only [hb] at h9
      cases h9), hzz]
    rfl
  · rcases hf : f x y z with _ | _
    · rw [h1.2 (fun hh => by rw [hf] at hh; cases hh.2), hzz]
      rfl
    · rw [h1.1 (.inl ⟨(mem_boxD h0).2 hb, hf⟩)]
      rfl
/-! ### the cells about one -/
theorem nbN_succ (g : Fld) (x y z : Int) (n : Nat) : ((nbN g x y z (n + 1) : Nat) : Int) = (nbN g x y z n : Int) + if n = 13 then 0 else bi (g (x + (n : Int) % 3 - 1) (y + (n : Int) / 9 - 1) (z + (n : Int) / 3 % 3 - 1)) := by
  show ((nbN g x y z n + _ : Nat) : Int) = _
  by_cases h : n = 13
  · rw [if_neg (fun hh => hh.1 h), if_pos h]; simp
  · rw [if_neg h]
    rcases g (x + (n : Int) % 3 - 1) (y + (n : Int) / 9 - 1) (z + (n : Int) / 3 % 3 - 1) with _ | _ <;> simp [bi, h]
theorem about_nb {fs : List Int} {d : Int} {f : Fld} (h : FIs fs d f) {x y z : Int} {X Y Z : Nat} (hx : x + 2 = (X : Int)) (hy : y - 5 = (Y : Int)) (hz : z + 2 = (Z : Int)) (bx : 1 ≤ X ∧ X < 19) (bY : 1 ≤ Y ∧ Y < 25) (bz : 1 ≤ Z ∧ Z < 19) :
    laysN fs Y Z X 3 - fs.getD (Y * 400 + Z * 20 + X) 0 = (nbN (fun x y z => inB d x y z && f x y z) x y z 27 : Int) := by
  obtain ⟨T, hT⟩ : ∃ T : Nat → Int, T = fun n : Nat => bi (inB d (x + (n : Int) % 3 - 1) (y + (n : Int) / 9 - 1) (z + (n : Int) / 3 % 3 - 1) && f (x + (n : Int) % 3 - 1) (y + (n : Int) / 9 - 1) (z + (n : Int) / 3 % 3 - 1)) := ⟨_, rfl⟩
  have hc : ∀ i k c : Nat, i < 3 → k < 3 → c < 3 → fs.getD ((Y - 1 + i) * 400 + (Z - 1 + k) * 20 + (X - 1 + c)) 0 = T (9 * i + 3 * k + c) := fun i k c hi hk hc => by
    have e := h.has (x + (c : Int) - 1) (y + (i : Int) - 1) (z + (k : Int) - 1) (by unfold inF; omega)
    rw [fpl_of (X := X - 1 + c) (Y := Y - 1 + i) (Z := Z - 1 + k) (by omega) (by omega) (by omega)] at e
    rw [e, hT]
    simp only
    rw [show ((9 * i + 3 * k + c : Nat) : Int) % 3 = c by omega, show ((9 * i + 3 * k + c : Nat) : Int) / 9 = i by omega, show ((9 * i + 3 * k + c : Nat) : Int) / 3 % 3 = k by omega]
  have hr : ∀ i k : Nat, i < 3 → k < 3 → row3 fs (Y - 1 + i) (Z - 1 + k) X = T (9 * i + 3 * k) + T (9 * i + 3 * k + 1) + T (9 * i + 3 * k + 2) := fun i k hi hk => by
    unfold row3
    have h0 := hc i k 0 hi hk (by omega)
    have h1 := hc i k 1 hi hk (by omega)
    have h2 := hc i k 2 hi hk (by omega)
    rw [show X - 1 + 0 = X - 1 by omega] at h0
    rw [show X - 1 + 1 = X by omega] at h1
    rw [show X - 1 + 2 = X + 1 by omega] at h2
    rw [h0, h1, h2]
    rfl
  have hm : fs.getD (Y * 400 + Z * 20 + X) 0 = T 13 := by
    have h0 := hc 1 1 1 (by omega) (by omega) (by omega)
    rwa [show Y - 1 + 1 = Y by omega, show Z - 1 + 1 = Z by omega, show X - 1 + 1 = X by omega] at h0
  have hn : ∀ n : Nat, ((nbN (fun x y z => inB d x y z && f x y z) x y z (n + 1) : Nat) : Int) = (nbN (fun x y z => inB d x y z && f x y z) x y z n : Int) + if n = 13 then 0 else T n := fun n => by
    rw [nbN_succ, hT]
  have h0 : ((nbN (fun x y z => inB d x y z && f x y z) x y z 0 : Nat) : Int) = 0 := rfl
  have hl : laysN fs Y Z X 3 = row3 fs (Y - 1 + 0) (Z - 1 + 0) X + row3 fs (Y - 1 + 0) (Z - 1 + 1) X + row3 fs (Y - 1 + 0) (Z - 1 + 2) X + (row3 fs (Y - 1 + 1) (Z - 1 + 0) X + row3 fs (Y - 1 + 1) (Z - 1 + 1) X + row3 fs (Y - 1 + 1) (Z - 1 + 2) X) + (row3 fs (Y - 1 + 2) (Z - 1 + 0) X + row3 fs (Y - 1 + 2) (Z - 1 + 1) X + row3 fs (Y - 1 + 2) (Z - 1 + 2) X) := by
    simp only [laysN, rowsN]
    omega
  rw [hl, hr 0 0 (by omega) (by omega), hr 0 1 (by omega) (by omega), hr 0 2 (by omega) (by omega), hr 1 0 (by omega) (by omega), hr 1 1 (by omega) (by omega), hr 1 2 (by omega) (by omega), hr 2 0 (by omega) (by omega), hr 2 1 (by omega) (by omega), hr 2 2 (by omega) (by omega), hm]
  rw [hn 26, hn 25, hn 24, hn 23, hn 22, hn 21, hn 20, hn 19, hn 18, hn 17, hn 16, hn 15, hn 14, hn 13, hn 12, hn 11, hn 10, hn 9, hn 8, hn 7, hn 6, hn 5, hn 4, hn 3, hn 2, hn 1, hn 0, h0]
  clear hn hr hc hl hm h0 hT
  simp
  omega
/-! ### what the stages of the caves are -/
theorem step_fit {ff fo : Fld} {d' d : Int} (hd : 0 ≤ d ∧ d < d' ∧ d' ≤ 2) (hfo : ∀ x y z, fo x y z = true → 6 ≤ y ∧ y ≤ 29) {x y z : Int} (h : inB d x y z = true) :
    ((inB 2 x y z && ff x y z) && decide (13 ≤ nbN (fun x y z => inB d' x y z && fo x y z) x y z 27)) = stepF ff fo x y z := by
  have hb := inB_iff.1 h
  have e1 : inB 2 x y z = true := inB_iff.2 (by omega)
  unfold stepF
  rw [e1, Bool.true_and, nbN_congr (f := fun x y z => inB d' x y z && fo x y z) (f' := fo) (fun a b c a1 a2 b1 b2 c1 c2 => ?_) 27 (Nat.le_refl _)]
  rcases hv : fo (x + a) (y + b) (z + c) with _ | _
  · exact Bool.and_false _
  · have := hfo _ _ _ hv
    rw [Bool.and_true]
    exact inB_iff.2 (by omega)
theorem open0_fit {S : Nat} {cx cz : Int} {css : List (List Int)} {x y z : Int} (h : open0 S cx cz css x y z = true) : 6 ≤ y ∧ y ≤ 29 := by
  unfold open0 at h
  simp at h
  exact fit_y h.1
theorem open1_fit {S : Nat} {cx cz : Int} {css : List (List Int)} {x y z : Int} (h : open1 S cx cz css x y z = true) : 6 ≤ y ∧ y ≤ 29 := by
  unfold open1 stepF at h
  simp at h
  exact fit_y h.1
/-! ### a chunk with its caves, cell by cell -/
def mkC (f : Fld) (l : List P3) (zs : List Int) : List Int := l.foldl (fun fs p => if f p.x p.y p.z = true then fs.set (p.y * 256 + p.z * 16 + p.x).toNat (if p.y ≤ 10 then 5 else 0) else fs) zs
theorem mkC_snoc (f : Fld) (l : List P3) (p : P3) (zs : List Int) : mkC f (l ++ [p]) zs = if f p.x p.y p.z = true then (mkC f l zs).set (p.y * 256 + p.z * 16 + p.x).toNat (if p.y ≤ 10 then 5 else 0) else mkC f l zs := by simp [mkC]
theorem mkC_len (f : Fld) : ∀ (l : List P3) (zs : List Int), (mkC f l zs).length = zs.length
  | [], _ => rfl
  | p :: l, zs => by
    show (mkC f l (if f p.x p.y p.z = true then zs.set (p.y * 256 + p.z * 16 + p.x).toNat (if p.y ≤ 10 then 5 else 0) else zs)).length = _
    rw [mkC_len f l]
    split <;> simp
theorem mkC_at (f : Fld) {x y z : Int} (h : inB 0 x y z = true) : ∀ (l : List P3) (zs : List Int), (∀ p ∈ l, inB 0 p.x p.y p.z = true) → zs.length = 32768 →
    ((⟨x, y, z⟩ ∈ l ∧ f x y z = true) ∨ zs.getD (y * 256 + z * 16 + x).toNat 0 = (if y ≤ 10 then 5 else 0) → (mkC f l zs).getD (y * 256 + z * 16 + x).toNat 0 = (if y ≤ 10 then 5 else 0)) ∧ (¬ (⟨x, y, z⟩ ∈ l ∧ f x y z = true) → (mkC f l zs).getD (y * 256 + z * 16 + x).toNat 0 = zs.getD (y * 256 + z * 16 + x).toNat 0)
  | [], zs, _, _ => ⟨fun h => (by rcases h with ⟨h, _⟩ | h; cases h; exact h), fun _ => rfl⟩
  | p :: l, zs, hl, hz => by
    have hp := inB_iff.1 (hl p (List.mem_cons_self ..))
    have hb := inB_iff.1 h
    have e : mkC f (p :: l) zs = mkC f l (if f p.x p.y p.z = true then zs.set (p.y * 256 + p.z * 16 + p.x).toNat (if p.y ≤ 10 then 5 else 0) else zs) := rfl
    rw [e]
    have ih := mkC_at f h l (if f p.x p.y p.z = true then zs.set (p.y * 256 + p.z * 16 + p.x).toNat (if p.y ≤ 10 then 5 else 0) else zs) (fun q hq => hl q (List.mem_cons_of_mem _ hq)) (by split <;> simp [hz])
    have hlt : (p.y * 256 + p.z * 16 + p.x).toNat < zs.length := by rw [hz]; omega
    by_cases hpe : p = ⟨x, y, z⟩
    · subst hpe
      by_cases hf : f x y z = true
      · rw [if_pos hf] at ih ⊢
        refine ⟨fun _ => ih.1 (.inr (C.getD_set_self zs _ _ hlt)), fun hn => absurd ⟨List.mem_cons_self .., hf⟩ hn⟩
      · rw [if_neg hf] at ih ⊢
        refine ⟨fun hh => ?_, fun _ => ih.2 (fun hh => hf hh.2)⟩
        rcases hh with ⟨_, hh⟩ | hh
        · exact absurd hh hf
        · exact ih.1 (.inr hh)
    · have hne : (p.y * 256 + p.z * 16 + p.x).toNat ≠ (y * 256 + z * 16 + x).toNat := fun e' => by
        have e1 : p.x = x := by omega
        have e2 : p.y = y := by omega
        have e3 : p.z = z := by omega
        exact hpe (by cases p; simp_all)
      have hs : (if f p.x p.y p.z = true then zs.set (p.y * 256 + p.z * 16 + p.x).toNat (if p.y ≤ 10 then 5 else 0) else zs).getD (y * 256 + z * 16 + x).toNat 0 = zs.getD (y * 256 + z * 16 + x).toNat 0 := by
        split
        · exact C.getD_set_ne zs _ hne
        · rfl
      rw [hs] at ih
      refine ⟨fun hh => ih.1 ?_, fun hh => ih.2 fun h2 => hh ⟨List.mem_cons_of_mem _ h2.1, h2.2⟩⟩
      rcases hh with ⟨hm, hf⟩ | hh
      · rcases List.mem_cons.1 hm with hm | hm
        · exact absurd hm.symm hpe
        · exact .inl ⟨hm, hf⟩
      · exact .inr hh
/-- A cell that no cell of the list tells of. -/
theorem mkC_other (f : Fld) {i : Nat} : ∀ (l : List P3) (zs : List Int), (∀ p ∈ l, (p.y * 256 + p.z * 16 + p.x).toNat ≠ i) → (mkC f l zs).getD i 0 = zs.getD i 0
  | [], _, _ => rfl
  | p :: l, zs, h => by
    show (mkC f l (if f p.x p.y p.z = true then zs.set (p.y * 256 + p.z * 16 + p.x).toNat (if p.y ≤ 10 then 5 else 0) else zs)).getD i 0 = _
    rw [mkC_other f l _ (fun q hq => h q (List.mem_cons_of_mem _ hq))]
    split
    · exact C.getD_set_ne zs _ (h p (List.mem_cons_self ..))
    · rfl
theorem carve_is (S : Nat) (cx cz : Int) (css : List (List Int)) (hl : (css.getD 4 []).length = 32768) : mkC (fun x y z => inB 0 x y z && open2 S cx cz css x y z) (boxD 0) (css.getD 4 []) = carveN S cx cz css := by
  refine getD_ext (by rw [mkC_len, hl, carveN_len]) fun i hi => ?_
  rw [mkC_len, hl] at hi
  rw [carveN_at S cx cz css i hi]
  unfold carvAt
  have hidx : ((i : Int) / 256 * 256 + (i : Int) / 16 % 16 * 16 + (i : Int) % 16).toNat = i := by omega
  have hin : ∀ p ∈ boxD 0, inB 0 p.x p.y p.z = true := fun p hp => (mem_boxD (by omega)).1 hp
  by_cases hy : 6 ≤ (i : Int) / 256 ∧ (i : Int) / 256 ≤ 29
  · have hb : inB 0 ((i : Int) % 16) ((i : Int) / 256) ((i : Int) / 16 % 16) = true := inB_iff.2 (by omega)
    have h1 := mkC_at (fun x y z => inB 0 x y z && open2 S cx cz css x y z) hb (boxD 0) (css.getD 4 []) hin hl
    rw [hidx] at h1
    simp only [hb, Bool.true_and] at h1
    by_cases ho : open2 S cx cz css ((i : Int) % 16) ((i : Int) / 256) ((i : Int) / 16 % 16) = true
    · rw [if_pos ho, h1.1 (.inl ⟨(mem_boxD (by omega)).2 hb, ho⟩)]
    · rw [if_neg ho, h1.2 (fun hh => ho hh.2)]
  · have ho : ¬ open2 S cx cz css ((i : Int) % 16) ((i : Int) / 256) ((i : Int) / 16 % 16) = true := fun hh => hy (fit_y (open2_fit hh))
    rw [if_neg ho, mkC_other _ _ _ (fun p hp e => ?_)]
    have := inB_iff.1 (hin p hp)
    omega
end Go.Proofs.Ytajjaeaknonmfaa
