/-
  chunks; the two caches side by side.
-/
import Derived.Test.YtpfhgkgkbefigaaRg
import Derived.Test.YtpfhgkgkbefigaaRn
import Derived.Test.YtpfhgkgkbefigaaRt
set_option maxRecDepth 20000
namespace Go.Proofs.Ytpfhgkgkbefigaa
open Go.RowKit Go.Maps

theorem chunks_c {B1 B2 : Nat} {w : World} {a1 a2 : Option Addr} {c1 c2 : Nat} {l1 l2 : List (Int × Int)} (h1 : ARow B1 w a1 c1 l1) (h2 : ARow B2 w a2 c2 l2) (hn : l1.length ≤ 3000000) (he : l1 = l2) :
    Calls Try.prog 18 #[.slice a1 l1.length c1, .slice a2 l2.length c2] w fun e w' => e = .returned (.bool true) ∧ Below w.heap.size w w' := by
  subst he
  obtain ⟨Post, hPost⟩ : ∃ Post : Ending → World → Prop, Post = fun e w' => e = .returned (.bool true) ∧ Below w.heap.size w w' := ⟨_, rfl⟩
  rw [← hPost]
  have HP : Hid (∀ w', Below w.heap.size w w' → Post (.returned (.bool true)) w') := fun w' h1 => by rw [hPost]; exact ⟨rfl, h1⟩
  clear hPost
  have HA : Hid (ARow B1 w a1 c1 l1) := h1
  have HB : Hid (ARow B2 w a2 c2 l1) := h2
  clear h1 h2
  go_enter Try.func18, Try.ntmps18
  go_wp2
  go_loopw [5] (fun vi wr => ∃ k : Nat, vi = .int .i64 (k : Int) ∧ k ≤ l1.length ∧ Hid (Below w.heap.size w wr)) (fun vi _ => l1.length - (intOf vi).toNat)
  case atStart => exact ⟨0, rfl, Nat.zero_le _, Below.refl _ _⟩
  case round =>
    obtain ⟨k, rfl, hk, HI⟩ := hrel
    by_cases hlt : k < l1.length
    · have hlt' : (k : Int) < (l1.length : Int) := by omega
      have hA := HA.out.below HI.out
      have hB := HB.out.below HI.out
      rcases hA.form with ⟨_, he⟩ | ⟨g1, rfl⟩
      · rw [he] at hlt; simp at hlt
      rcases hB.form with ⟨_, he⟩ | ⟨g2, rfl⟩
      · rw [he] at hlt; simp at hlt
      obtain ⟨x0, x1⟩ := hA.cell hlt
      obtain ⟨y0, y1⟩ := hB.cell hlt
      have HN : Hid (∀ nq, Below w.heap.size w (wr.drewN nq)) := fun nq => HI.out.trans ((below_drewN wr nq).mono HI.out.size)
      clear HI HA HB hA hB HP
      generalize l1[k].1 = X at *
      generalize l1[k].2 = Z at *
      go_wp2
      go_big_quiet (fail)
      go_wp2
      go_roundw
      case rel => exact ⟨k + 1, by go_num, by omega, HN.out nq⟩
      case measure => simp [intOf]; omega
    · obtain rfl : k = l1.length := by omega
      have R := HP.out wr HI.out
      clear HP HI HA HB
      go_wp2
      exact R
theorem isP_D : ∀ o, isD o = true → isP o = false := fun o ho => by
  cases o with
  | cells cs t fz =>
    unfold isD at ho
    unfold isP
    simp only [Bool.or_eq_true, beq_iff_eq] at ho
    rcases ho with rfl | rfl <;> rfl
  | _ => simp [isD] at ho
theorem isD_P : ∀ o, isP o = true → isD o = false := fun o ho => by
  cases hd : isD o with
  | false => rfl
  | true => rw [isP_D o hd] at ho; cases ho
/-- The two caches; the call stands at ob. -/
structure Dm (W : World) (c : Nat) (m : Int) (r ob : Nat) (o : Oc) (s t : List E) (n : Nat) (w : World) : Prop where
  ls : Ls W c m s n w
  rc : ∃ av cv, Rc W.heap.size w r m t av cv
  ob : w.heap[ob]? = some (.cells #[.int .i64 o.k, .int .i64 o.x, .int .i64 o.z, .int .i64 o.v] 33 (0, 0))
section
variable {W : World} {c : Nat} {m : Int} {r ob : Nat} {o : Oc} {s t : List E} {n : Nat} {w w' : World}
theorem Dm.on (h : Dm W c m r ob o s t n w) (hb : Below w.heap.size w w') : Dm W c m r ob o s t n w' := by
  obtain ⟨av, cv, h1⟩ := h.rc
  exact ⟨h.ls.on hb, ⟨av, cv, h1.on hb⟩, (hb.block ob (Array.getElem?_eq_some_iff.1 h.ob).1).trans h.ob⟩
theorem Dm.byP {s' : List E} {n' : Nat} (h : Dm W c m r ob o s t n w) (h1 : Ls W c m s' n' w') (hk : KeepT isP W.heap.size w w') : Dm W c m r ob o s' t n' w' := by
  obtain ⟨av, cv, h2⟩ := h.rc
  exact ⟨h1, ⟨av, cv, h2.keep hk isP_D⟩, hk.typ ob _ h.ob rfl⟩
theorem Dm.byD {t' : List E} (h : Dm W c m r ob o s t n w) (h1 : ∃ av cv, Rc W.heap.size w' r m t' av cv) (hk : KeepT isD W.heap.size w w') : Dm W c m r ob o s t' n w' :=
  ⟨⟨h.ls.cs.keep hk isD_P, h.ls.below.trans (hk.below h.ls.below.size)⟩, h1, hk.typ ob _ h.ob rfl⟩
theorem Dm.by31 {B' : Nat} (h : Dm W c m r ob o s t n w) (hk : KeepT is31 B' w w') (hb : Below W.heap.size W w') : Dm W c m r ob o s t n w' := by
  obtain ⟨av, cv, h2⟩ := h.rc
  exact ⟨⟨h.ls.cs.keep hk (fun _ ho => is31_isP ho), hb⟩, ⟨av, cv, h2.keep hk is31_D⟩, hk.typ ob _ h.ob rfl⟩
theorem Dm.more (h : Dm W c m r ob o s t n w) : Dm W c m r ob o s t (n + 1) w := ⟨⟨h.ls.cs.more (Nat.le_succ n), h.ls.below⟩, h.rc, h.ob⟩
theorem Dm.cells (h : Dm W c m r ob o s t n w) : w.cell? ⟨ob, 0, none⟩ = some (.int .i64 o.k) ∧ w.cell? ⟨ob, 1, none⟩ = some (.int .i64 o.x) ∧ w.cell? ⟨ob, 2, none⟩ = some (.int .i64 o.z) ∧ w.cell? ⟨ob, 3, none⟩ = some (.int .i64 o.v) := by
  refine ⟨?_, ?_, ?_, ?_⟩
  · rw [cell_of_row w ob 0 _ 33 (0, 0) h.ob]; rfl
  · rw [cell_of_row w ob 1 _ 33 (0, 0) h.ob]; rfl
  · rw [cell_of_row w ob 2 _ 33 (0, 0) h.ob]; rfl
  · rw [cell_of_row w ob 3 _ 33 (0, 0) h.ob]; rfl
theorem Dm.put1 (h : Dm W c m r ob o s t n w) (hi : OcOk o) (hN : n ≤ 900) : Calls Try.prog 9 #[.pointer (some ⟨c, 0, none⟩), valA o.x o.z, .int .i64 o.v] w fun e w' => e = .returned (.tuple #[]) ∧ Dm W c m r ob o (putE s o.x o.z o.v) t (n + 1) w' :=
  (h.ls.put hN hi.1 hi.2.1 _).mono fun _ _ ⟨he, h1, h2⟩ => ⟨he, h.byP h1 h2⟩
theorem Dm.get1 (h : Dm W c m r ob o s t n w) (hi : OcOk o) (hN : n ≤ 900) : Calls Try.prog 11 #[.pointer (some ⟨c, 0, none⟩), valA o.x o.z] w fun e w' => e = .returned (.tuple #[.int .i64 (valE (findE s o.x o.z)), .bool (findE s o.x o.z).isSome]) ∧ Dm W c m r ob o (getE s o.x o.z) t (n + 1) w' :=
  (h.ls.get hN hi.1 hi.2.1).mono fun _ _ ⟨he, h1, h2⟩ => ⟨he, h.byP h1 h2⟩
theorem Dm.pin1 (h : Dm W c m r ob o s t n w) (hi : OcOk o) : Calls Try.prog 13 #[.pointer (some ⟨c, 0, none⟩), valA o.x o.z] w fun e w' => e = .returned (.bool (okE s o.x o.z true)) ∧ Dm W c m r ob o (pinE s o.x o.z true) t n w' :=
  (h.ls.pin hi.1 hi.2.1).mono fun _ _ ⟨he, h1, h2⟩ => ⟨he, h.byP h1 h2⟩
theorem Dm.unpin1 (h : Dm W c m r ob o s t n w) (hi : OcOk o) (hN : n ≤ 900) : Calls Try.prog 15 #[.pointer (some ⟨c, 0, none⟩), valA o.x o.z] w fun e w' => e = .returned (.bool (okE s o.x o.z false)) ∧ Dm W c m r ob o (pinE s o.x o.z false) t n w' :=
  (h.ls.unpin hN hi.1 hi.2.1).mono fun _ _ ⟨he, h1, h2⟩ => ⟨he, h.byP h1 h2⟩
theorem Dm.drop1 (h : Dm W c m r ob o s t n w) (hi : OcOk o) : Calls Try.prog 16 #[.pointer (some ⟨c, 0, none⟩), valA o.x o.z] w fun e w' => e = .returned (.bool (okE s o.x o.z true)) ∧ Dm W c m r ob o (dropE s o.x o.z) t n w' :=
  (h.ls.drop hi.1 hi.2.1).mono fun _ _ ⟨he, h1, h2⟩ => ⟨he, h.byP h1 h2⟩
theorem Dm.trim1 (h : Dm W c m r ob o s t n w) (hm : 1 ≤ m) : Calls Try.prog 19 #[.pointer (some ⟨c, 0, none⟩)] w fun e w' => ∃ a cp, e = .returned (.slice a (trimE m s).2.length cp) ∧ ARow W.heap.size w' a cp (trimE m s).2 ∧ Dm W c m r ob o (trimE m s).1 t n w' :=
  (h.ls.trim hm).mono fun _ _ ⟨a, cp, he, h0, h1, h2⟩ => ⟨a, cp, he, h0, h.byP h1 h2⟩
theorem Dm.put2 (h : Dm W c m r ob o s t n w) (ha : Apart t) (hl : t.length ≤ 900) : Calls Try.prog 10 #[.pointer (some ⟨r, 0, none⟩), valA o.x o.z, .int .i64 o.v] w fun e w' => e = .returned (.tuple #[]) ∧ Dm W c m r ob o s (putE t o.x o.z o.v) n w' := by
  obtain ⟨_, _, h1⟩ := h.rc
  exact (rput_c h1 ha hl _ _ _).mono fun _ _ ⟨he, h2, h3⟩ => ⟨he, h.byD h2 h3⟩
theorem Dm.get2 (h : Dm W c m r ob o s t n w) (ha : Apart t) (hl : t.length ≤ 900) : Calls Try.prog 12 #[.pointer (some ⟨r, 0, none⟩), valA o.x o.z] w fun e w' => e = .returned (.tuple #[.int .i64 (valE (findE t o.x o.z)), .bool (findE t o.x o.z).isSome]) ∧ Dm W c m r ob o s (getE t o.x o.z) n w' := by
  obtain ⟨_, _, h1⟩ := h.rc
  exact (rget_c h1 ha hl _ _).mono fun _ _ ⟨he, h2, h3⟩ => ⟨he, h.byD h2 h3⟩
theorem Dm.pin2 (h : Dm W c m r ob o s t n w) (ha : Apart t) (b : Bool) : Calls Try.prog 14 #[.pointer (some ⟨r, 0, none⟩), valA o.x o.z, .bool b] w fun e w' => e = .returned (.bool (okE t o.x o.z b)) ∧ Dm W c m r ob o s (pinE t o.x o.z b) n w' := by
  obtain ⟨_, _, h1⟩ := h.rc
  exact (rpin_c h1 ha _ _ b).mono fun _ _ ⟨he, h2, h3⟩ => ⟨he, h.byD h2 h3⟩
theorem Dm.drop2 (h : Dm W c m r ob o s t n w) (ha : Apart t) : Calls Try.prog 17 #[.pointer (some ⟨r, 0, none⟩), valA o.x o.z] w fun e w' => e = .returned (.bool (okE t o.x o.z true)) ∧ Dm W c m r ob o s (dropE t o.x o.z) n w' := by
  obtain ⟨_, _, h1⟩ := h.rc
  exact (rdrop_c h1 ha _ _).mono fun _ _ ⟨he, h2, h3⟩ => ⟨he, h.byD h2 h3⟩
theorem Dm.trim2 (h : Dm W c m r ob o s t n w) (ha : Apart t) (hm : 1 ≤ m) {a0 : Option Addr} {c0 : Nat} {l0 : List (Int × Int)} (h0 : ARow W.heap.size w a0 c0 l0) : Calls Try.prog 20 #[.pointer (some ⟨r, 0, none⟩)] w fun e w' => ∃ a cp, e = .returned (.slice a (trimE m t).2.length cp) ∧ ARow W.heap.size w' a cp (trimE m t).2 ∧ Dm W c m r ob o s (trimE m t).1 n w' ∧ ARow W.heap.size w' a0 c0 l0 := by
  obtain ⟨_, _, h1⟩ := h.rc
  exact (rtrim_c h1 ha hm).mono fun _ _ ⟨a, cp, he, hr, h2, h3⟩ => ⟨a, cp, he, hr.base h.ls.below.size, h.byD h2 h3, h0.keep h3 (fun _ _ => rfl)⟩
end
/-- Ahead of a call, and behind it. -/
def Dl (W : World) (c : Nat) (m : Int) (r n : Nat) (w : World) : Prop := ∃ s av cv, Ls W c m s n w ∧ Rc W.heap.size w r m s av cv
end Go.Proofs.Ytpfhgkgkbefigaa
