/-
  What a cache keeps, as the chapter tells it: a list, the one that was used least recently first; and how it lies in memory.
-/
import Derived.Test.YtpfhgkgkbefigaaCu
set_option maxRecDepth 20000
namespace Go.Proofs.Ytpfhgkgkbefigaa
open Go.RowKit Go.Maps

/-- A chunk, what it has, is it pinned? -/
structure E where
  x : Int
  z : Int
  v : Int
  p : Bool
def atE (x z : Int) (e : E) : Bool := decide (e.x = x ∧ e.z = z)
def findE (l : List E) (x z : Int) : Option E := l.find? (atE x z)
def remE (l : List E) (x z : Int) : List E := l.filter fun e => !atE x z e
def pOf : Option E → Bool
  | none => false
  | some e => e.p
def putE (l : List E) (x z v : Int) : List E := remE l x z ++ [⟨x, z, v, pOf (findE l x z)⟩]
def valE : Option E → Int
  | none => 0
  | some e => e.v
def getE (l : List E) (x z : Int) : List E :=
  match findE l x z with
  | none => l
  | some e => remE l x z ++ [e]
def setE (l : List E) (x z : Int) (b : Bool) : List E := l.map fun e => if atE x z e then { e with p := b } else e
/-- May it be pinned (b), or let go again (not b)? -/
def okE (l : List E) (x z : Int) (b : Bool) : Bool :=
  match findE l x z with
  | none => false
  | some e => e.p != b
def pinE (l : List E) (x z : Int) (b : Bool) : List E := if okE l x z b then setE l x z b else l
def dropE (l : List E) (x z : Int) : List E := if okE l x z true then remE l x z else l
def unp (l : List E) : Nat := (l.filter fun e => !e.p).length
def pins (l : List E) : Nat := (l.filter fun e => e.p).length
def headU (l : List E) : Option E := l.find? fun e => !e.p
def trimK : Nat → List E → List E × List (Int × Int)
  | 0, l => (l, [])
  | n + 1, l =>
    match headU l with
    | none => (l, [])
    | some e => ((trimK n (remE l e.x e.z)).1, (e.x, e.z) :: (trimK n (remE l e.x e.z)).2)
def trimE (most : Int) (l : List E) : List E × List (Int × Int) := trimK ((unp l : Int) - most).toNat l
def keysE (l : List E) : List (Int × Int) := l.map fun e => (e.x, e.z)
theorem unp_pins (l : List E) : unp l + pins l = l.length := by
  induction l with
  | nil => rfl
  | cons e l ih =>
    unfold unp pins at *
    cases h : e.p <;> simp [h] <;> omega

/-! ### in memory -/
def toE (D : Nat → It) (q : List Nat) (b : Nat) : E := ⟨(D b).x, (D b).z, (D b).v, decide (b ∉ q)⟩
theorem atE_toE (D : Nat → It) (q : List Nat) (x z : Int) : (atE x z ∘ toE D q) = isAt D x z := by
  funext b
  rfl
theorem find_map (D : Nat → It) (q I : List Nat) (x z : Int) : findE (I.map (toE D q)) x z = (lookI D I x z).map (toE D q) := by
  unfold findE lookI
  rw [List.find?_map, atE_toE]
theorem rem_map {D : Nat → It} {q I : List Nat} {Dm : DataW Unit} (hm : MapIs D I Dm) {b : Nat} (hb : b ∈ I) : remE (I.map (toE D q)) (D b).x (D b).z = (I.erase b).map (toE D q) := by
  unfold remE
  rw [List.filter_map, hm.nod.erase_eq_filter]
  congr 1
  refine List.filter_congr (fun a ha => ?_)
  show (!decide ((D a).x = (D b).x ∧ (D a).z = (D b).z)) = (a != b)
  by_cases e : a = b
  · subst e; simp
  · have : ¬ ((D a).x = (D b).x ∧ (D a).z = (D b).z) := fun h => e (hm.one ha hb h.1 h.2)
    simp [this, e]
theorem rem_none {D : Nat → It} {q I : List Nat} {x z : Int} (h : lookI D I x z = none) : remE (I.map (toE D q)) x z = I.map (toE D q) := by
  unfold remE
  rw [List.filter_eq_self]
  intro e he
  obtain ⟨b, hb, rfl⟩ := List.mem_map.1 he
  have := lookI_none h b hb
  show (!decide ((D b).x = x ∧ (D b).z = z)) = true
  simp [this]
theorem map_same {D D' : Nat → It} {q q' I : List Nat} (h : ∀ b ∈ I, D' b = D b ∧ (b ∈ q' ↔ b ∈ q)) : I.map (toE D' q') = I.map (toE D q) := by
  refine List.map_congr_left (fun b hb => ?_)
  unfold toE
  rw [(h b hb).1, decide_eq_decide.2 (not_congr (h b hb).2)]
/-- A cache that keeps the chunks of l, that keeps at most most of those that are not pinned, and that was asked at most N times. -/
structure CI (B : Nat) (w : World) (c : Nat) (most : Int) (l : List E) (N : Nat) (h : Hd) (av : Option Addr) (cap : Nat) (D : Nat → It) (q I : List Nat) (Dm : DataW Unit) : Prop where
  cc : CC B w c h av cap D q I Dm
  mo : h.most = most
  us : h.uses ≤ N
  ln : I.length ≤ N
  srt : I.Pairwise fun a b => (D a).u < (D b).u
  top : ∀ b ∈ I, (D b).u ≤ h.uses
  eq : l = I.map (toE D q)
def CS (B : Nat) (w : World) (c : Nat) (most : Int) (l : List E) (N : Nat) : Prop := ∃ h av cap D q I Dm, CI B w c most l N h av cap D q I Dm
section
variable {B : Nat} {w w' : World} {c : Nat} {most : Int} {l : List E} {N : Nat}
theorem CS.keep {T : Obj → Bool} {B' : Nat} (H : CS B w c most l N) (hk : KeepT T B' w w') (hT : ∀ o, isP o = true → T o = false) : CS B w' c most l N := by
  obtain ⟨h, av, cap, D, q, I, Dm, H⟩ := H
  exact ⟨h, av, cap, D, q, I, Dm, H.cc.keep hk hT, H.mo, H.us, H.ln, H.srt, H.top, H.eq⟩
theorem CS.below (H : CS B w c most l N) (hb : Below w.heap.size w w') : CS B w' c most l N := by
  obtain ⟨h, av, cap, D, q, I, Dm, H⟩ := H
  exact ⟨h, av, cap, D, q, I, Dm, H.cc.below hb, H.mo, H.us, H.ln, H.srt, H.top, H.eq⟩
theorem CS.more (H : CS B w c most l N) {N' : Nat} (hN : N ≤ N') : CS B w c most l N' := by
  obtain ⟨h, av, cap, D, q, I, Dm, H⟩ := H
  exact ⟨h, av, cap, D, q, I, Dm, H.cc, H.mo, Nat.le_trans H.us hN, Nat.le_trans H.ln hN, H.srt, H.top, H.eq⟩
/-- Behind a use of item b. -/
theorem CI.used {h : Hd} {av : Option Addr} {cap : Nat} {D : Nat → It} {q I : List Nat} {Dm : DataW Unit} {v : Int}
    (cc : CC B w c h av cap D q I Dm) (mo : h.most = most) (us : h.uses ≤ N) (ln : I.length ≤ N + 1) {b : Nat} (hb : b ∈ I) (srt : (I.erase b).Pairwise fun a b => (D a).u < (D b).u) (top : ∀ a ∈ I, a ≠ b → (D a).u ≤ h.uses)
    (us' : UseSay B w c h av cap D q I Dm b w') (hl : l = (I.erase b).map (toE D q)) (hv : (D b).v = v) : CS B w' c most (l ++ [⟨(D b).x, (D b).z, v, decide (b ∉ q)⟩]) (N + 1) := by
  obtain ⟨q', hp, cc', _⟩ := us'
  have hnod := cc.mi.nod
  have hperm : (I.erase b ++ [b]).Perm I := ((List.perm_append_comm (l₁ := I.erase b) (l₂ := [b]))).trans (List.perm_cons_erase hb).symm
  have hmem : ∀ a, a ∈ I.erase b → a ∈ I ∧ a ≠ b := fun a ha => by
    have := (hnod.mem_erase_iff).1 ha
    exact ⟨this.2, this.1⟩
  refine ⟨_, av, cap, _, q', I.erase b ++ [b], Dm, ⟨cc'.qh, cc'.hp, fun k hk => hperm.mem_iff.2 (cc'.sub k hk), fun k hk => cc'.pin k (hperm.mem_iff.1 hk), fun k hk => cc'.lo k (hperm.mem_iff.1 hk), cc'.mp, cc'.mlo, cc'.mi.perm hperm (fun _ _ => ⟨rfl, rfl⟩)⟩, mo, by show h.uses + 1 ≤ N + 1; omega, by rw [hperm.length_eq]; exact ln, ?_, fun a ha => ?_, ?_⟩
  · rw [List.pairwise_append]
    refine ⟨?_, List.pairwise_singleton _ _, fun a ha d hd => ?_⟩
    · refine srt.imp_of_mem (fun {a d} ha hd hlt => ?_)
      rw [updU_other (hmem a ha).2, updU_other (hmem d hd).2]
      exact hlt
    · rw [List.mem_singleton.1 hd, updU_self, updU_other (hmem a ha).2]
      have := top a (hmem a ha).1 (hmem a ha).2
      show (D a).u < h.uses + 1
      omega
  · show (updU D b (h.uses + 1) a).u ≤ h.uses + 1
    rcases List.mem_append.1 ha with h1 | h1
    · rw [updU_other (hmem a h1).2]
      have := top a (hmem a h1).1 (hmem a h1).2
      omega
    · rw [List.mem_singleton.1 h1, updU_self]
      exact Nat.le_refl _
  · rw [List.map_append, hl]
    congr 1
    · refine (map_same (fun a ha => ⟨updU_other (hmem a ha).2, hp.mem_iff⟩)).symm
    · show [_] = [toE _ _ b]
      unfold toE
      rw [updU_self, hv, decide_eq_decide.2 (not_congr hp.mem_iff)]
end
end Go.Proofs.Ytpfhgkgkbefigaa
