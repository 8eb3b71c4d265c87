/-
  The landed cache: Trim.
-/
import Derived.Test.YtpfhgkgkbefigaaAr
set_option maxRecDepth 20000
namespace Go.Proofs.Ytpfhgkgkbefigaa
open Go.RowKit Go.Maps

theorem find_least {D : Nat → It} {I q : List Nat} (hs : I.Pairwise fun a b => (D a).u < (D b).u) {b : Nat} (hb : b ∈ I) (hq : b ∈ q) (hmin : ∀ a ∈ q, (D b).u ≤ (D a).u) : I.find? (fun a => decide (a ∈ q)) = some b := by
  cases hf : I.find? (fun a => decide (a ∈ q)) with
  | none =>
    have := List.find?_eq_none.1 hf b hb
    simp [hq] at this
  | some a =>
    obtain ⟨h1, la, lb, h2, h3⟩ := List.find?_eq_some_iff_append.1 hf
    simp only [decide_eq_true_eq] at h1
    by_cases e : a = b
    · rw [e]
    · exfalso
      rw [h2] at hb hs
      rcases List.mem_append.1 hb with h4 | h4
      · have := h3 b h4
        simp [hq] at this
      · rcases List.mem_cons.1 h4 with h5 | h5
        · exact e h5.symm
        · have := (List.pairwise_cons.1 (List.pairwise_append.1 hs).2.1).1 b h5
          have := hmin a h1
          omega
section
variable {B : Nat} {w : World} {c : Nat} {most : Int} {l : List E} {N : Nat} {h : Hd} {av : Option Addr} {cap : Nat} {D : Nat → It} {q I : List Nat} {Dm : DataW Unit}
theorem CI.unpq (H : CI B w c most l N h av cap D q I Dm) : unp l = q.length := by
  unfold unp
  rw [H.eq, List.filter_map, List.length_map]
  have hp : (I.filter ((fun e => !e.p) ∘ toE D q)).Perm q := by
    rw [List.perm_ext_iff_of_nodup (H.cc.mi.nod.filter _) H.cc.qh.nod]
    intro a
    rw [List.mem_filter]
    show a ∈ I ∧ (!decide (a ∉ q)) = true ↔ a ∈ q
    constructor
    · intro h; simpa using h.2
    · intro h; exact ⟨H.cc.sub a h, by simpa using h⟩
  exact hp.length_eq
theorem CI.headq (H : CI B w c most l N h av cap D q I Dm) (h0 : 0 < q.length) : headU l = some (toE D q (q.getD 0 0)) := by
  have hm := getD_mem h0
  have := find_least H.srt (H.cc.sub _ hm) hm (fun a ha => by
    obtain ⟨i, hi, e⟩ := mem_getD ha
    have := H.cc.hp.root (i + 1) i (Nat.lt_succ_self i) hi
    unfold uq fq at this
    rw [e] at this
    exact this)
  unfold headU
  rw [H.eq, List.find?_map]
  have e : ((fun e => !e.p) ∘ toE D q) = fun a => decide (a ∈ q) := by
    funext a
    show (!decide (a ∉ q)) = decide (a ∈ q)
    by_cases h : a ∈ q <;> simp [h]
  rw [e, this]
  rfl
end
theorem trim_done {most : Int} {l : List E} (h : (unp l : Int) ≤ most) : trimE most l = (l, []) := by
  unfold trimE
  rw [show ((unp l : Int) - most).toNat = 0 by omega]
  rfl
theorem trim_step {most : Int} {l : List E} {e : E} (h : most < (unp l : Int)) (hh : headU l = some e) (hu : unp (remE l e.x e.z) + 1 = unp l) : trimE most l = ((trimE most (remE l e.x e.z)).1, (e.x, e.z) :: (trimE most (remE l e.x e.z)).2) := by
  unfold trimE
  rw [show ((unp l : Int) - most).toNat = ((unp (remE l e.x e.z) : Int) - most).toNat + 1 by omega]
  show (match headU l with | none => (l, []) | some e => _) = _
  rw [hh]
/-- What Trim answers. -/
def TrimSay (B : Nat) (w : World) (c : Nat) (most : Int) (l : List E) (N : Nat) (e : Ending) (w' : World) : Prop :=
  ∃ a cp, e = .returned (.slice a (trimE most l).2.length cp) ∧ ARow w.heap.size w' a cp (trimE most l).2 ∧ CS B w' c most (trimE most l).1 N ∧ KeepT isP B w w'
/-- Where Trim stands: gs have gone by now. -/
structure TS (B : Nat) (w : World) (c : Nat) (most : Int) (l : List E) (N : Nat) (l' : List E) (gs : List (Int × Int)) (av : Option Addr) (cv : Nat) (wr : World) : Prop where
  cs : CS B wr c most l' N
  kp : KeepT isP B w wr
  e1 : (trimE most l).1 = (trimE most l').1
  e2 : (trimE most l).2 = gs ++ (trimE most l').2
  row : ARow w.heap.size wr av cv gs
  le : gs.length + unp l' ≤ 1000
theorem TS.below {B : Nat} {w : World} {c : Nat} {most : Int} {l : List E} {N : Nat} {l' : List E} {gs : List (Int × Int)} {av : Option Addr} {cv : Nat} {wr w' : World} (S : TS B w c most l N l' gs av cv wr) (hb : Below wr.heap.size wr w') : TS B w c most l N l' gs av cv w' :=
  ⟨S.cs.below hb, S.kp.trans (KeepT.of_below hb), S.e1, S.e2, S.row.below hb, S.le⟩

set_option maxHeartbeats 1000000 in
theorem trim_c {B : Nat} {w : World} {c : Nat} {most : Int} {l : List E} {N : Nat} (H : CS B w c most l N) (hmo : 1 ≤ most) : Calls Try.prog 19 #[.pointer (some ⟨c, 0, none⟩)] w (TrimSay B w c most l N) := by
  obtain ⟨Post, hPost⟩ : ∃ Post : Ending → World → Prop, Post = TrimSay B w c most l N := ⟨_, rfl⟩
  rw [← hPost]
  have HP : Hid (∀ e w', TrimSay B w c most l N e w' → Post e w') := fun e w' h1 => by rw [hPost]; exact h1
  clear hPost
  have hle : unp l ≤ 1000 := by
    obtain ⟨h, av, cap, D, q, I, Dm, H⟩ := H
    rw [H.unpq]
    exact H.cc.qh.sz
  have H0 : Hid (TS B w c most l N l [] none 0 w) := ⟨H, KeepT.refl _ _ _, rfl, rfl, ARow.nil _ _, by simpa using hle⟩
  clear H hle
  go_enter Try.func19, Try.ntmps19
  go_wp2
  go_loopw [3, 4] (fun vg _ wr => ∃ (l' : List E) (gs : List (Int × Int)) (av : Option Addr) (cv : Nat), vg = .slice av gs.length cv ∧ Hid (TS B w c most l N l' gs av cv wr)) (fun vg _ _ => 1000 - (match vg with | .slice _ n _ => n | _ => 0))
  case atStart => exact ⟨l, [], none, 0, rfl, H0⟩
  case round =>
    obtain ⟨l', gs, av, cv, rfl, HS⟩ := hrel
    have HS' := HS.out
    obtain ⟨h, ra, cap, D, q, I, Dm, H⟩ := HS'.cs
    have hun := H.unpq
    have c0 := H.cc.qh.hd.c0
    have c3 := H.cc.qh.hd.c3
    rw [H.mo] at c0
    have hsz := H.cc.qh.sz
    have hgl := HS'.le
    by_cases hlt : most < (q.length : Int)
    · have hq0 : 0 < q.length := by omega
      have hbq := getD_mem hq0
      have hbI := H.cc.sub _ hbq
      obtain ⟨g, cur, rfl, _⟩ := H.cc.qh.rowAt hq0
      have r0 := (H.cc.qh.row.cell hq0).1
      have hcl := H.cc.qh.capl hq0
      have hh := H.headq hq0
      have HX : Hid (∀ n, Calls Try.prog 33 #[.pointer (some ⟨c, 0, none⟩), pv (q.getD 0 0)] (wr.drewN n) fun e w' => e = .returned (.tuple #[]) ∧ (w'.cell? ⟨q.getD 0 0, 0, none⟩ = some (.int .i64 (D (q.getD 0 0)).x) ∧ w'.cell? ⟨q.getD 0 0, 1, none⟩ = some (.int .i64 (D (q.getD 0 0)).z)) ∧
          ∃ l2, CS B w' c most l2 N ∧ KeepT isP B w w' ∧ (trimE most l).1 = (trimE most l2).1 ∧ (trimE most l).2 = (gs ++ [((D (q.getD 0 0)).x, (D (q.getD 0 0)).z)]) ++ (trimE most l2).2 ∧ ARow w.heap.size w' av cv gs ∧ gs.length + 1 + unp l2 ≤ 1000) := fun n => by
        have Hn := H.below (below_drewN wr n)
        refine (letGo_c Hn.cc hbq).mono ?_
        rintro e w' ⟨rfl, hg, hi⟩
        have hk : KeepT isP B (wr.drewN n) w' := by
          obtain ⟨_, _, _, _, hk⟩ := hg
          exact hk
        have hgone := Hn.gone hbI hg
        have hu2 : unp (remE l' (D (q.getD 0 0)).x (D (q.getD 0 0)).z) + 1 = unp l' := by
          obtain ⟨q', Dm', h1, cc, _⟩ := hg
          have hl2 : remE l' (D (q.getD 0 0)).x (D (q.getD 0 0)).z = (I.erase (q.getD 0 0)).map (toE D q') := by
            rw [H.eq, rem_map H.cc.mi hbI]
            refine (map_same (fun a ha => ⟨rfl, ?_⟩)).symm
            have hne : a ≠ q.getD 0 0 := ((H.cc.mi.nod.mem_erase_iff).1 ha).1
            rw [← h1.mem_iff, List.mem_cons]
            exact ⟨.inr, fun h => h.resolve_left hne⟩
          have hn2 : unp (remE l' (D (q.getD 0 0)).x (D (q.getD 0 0)).z) = q'.length := by
            have := CI.unpq (most := most) (l := (I.erase (q.getD 0 0)).map (toE D q')) (N := N) ⟨cc, H.mo, H.us, Nat.le_trans List.length_erase_le H.ln, H.srt.sublist List.erase_sublist, fun a ha => H.top a (List.mem_of_mem_erase ha), rfl⟩
            rw [hl2, this]
          rw [hn2, hun, ← h1.length_eq]
          rfl
        have hst := trim_step (by rw [hun]; exact hlt) hh hu2
        have hk2 : KeepT isP B w w' := HS'.kp.trans ((KeepT.of_below (below_drewN wr n)).trans hk)
        refine ⟨rfl, ⟨hi.c0, hi.c1⟩, _, hgone, hk2, ?_, ?_, (HS'.row.below (below_drewN wr n)).keep hk (fun _ _ => rfl), ?_⟩
        · rw [HS'.e1, hst]
          rfl
        · rw [HS'.e2, hst, List.append_assoc]
          rfl
        · omega
      clear HS HS' H hun hh hbI hbq H0
      unfold pv at *
      generalize q.getD 0 0 = b at *
      generalize (D b).x = X at *
      generalize (D b).z = Z at *
      generalize q.length = n at *
      go_wp2
      go_big_quiet (fail)
      have hcall := HX.out nq
      have c3' : (wr.drewN nq).cell? ⟨c, 3, none⟩ = some (.slice (some ⟨g, 0, none⟩) n cap) := c3
      have r0' : (wr.drewN nq).cell? ⟨g, 0, none⟩ = some (.pointer (some ⟨b, 0, none⟩)) := r0
      clear HX c0 c3 r0
      generalize wr.drewN nq = w1 at *
      go_wp2_with fail
      refine hcall.mono ?_
      clear hcall c3' r0'
      rintro _ w2 ⟨rfl, ⟨b0, b1⟩, l2, hcs, hkp, he1, he2, hrow, hle2⟩
      have hb2 : Below w2.heap.size w2 (w2.alloc (.cells #[.int .i64 X, .int .i64 Z] 31)) := (Below.refl _ _).alloc (Nat.le_refl _) _
      have hx2 := heap_alloc_new w2 (.cells #[.int .i64 X, .int .i64 Z] 31)
      have hrow2 := hrow.below hb2
      have hsz2 : w.heap.size ≤ (w2.alloc (.cells #[.int .i64 X, .int .i64 Z] 31)).heap.size := Nat.le_trans hkp.size hb2.size
      have HF : Hid (∀ a' c' w3, ARow w.heap.size w3 a' c' (gs ++ [(X, Z)]) → (w2.alloc (.cells #[.int .i64 X, .int .i64 Z] 31)).grownBy w3 (Value.ownBlock (.slice av gs.length cv)) → TS B w c most l N l2 (gs ++ [(X, Z)]) a' c' w3) := fun a' c' w3 h1 h2 => by
        have hkg : KeepT is31 0 (w2.alloc (.cells #[.int .i64 X, .int .i64 Z] 31)) w3 := hrow2.grown h2 (Nat.zero_le _)
        have hown : ∀ gg, Value.ownBlock (.slice av gs.length cv) = some gg → w.heap.size ≤ gg := fun gg e => (World.ownsRow.lt hrow2 gg e).1
        refine ⟨(hcs.below hb2).keep hkg (fun o ho => ?_), (hkp.trans (KeepT.of_below hb2)).grown_new h2 hown, he1, he2, h1, by rw [List.length_append, List.length_singleton]; omega⟩
        cases o with
        | cells cs t fz =>
          unfold isP at ho
          unfold is31
          simp only [Bool.or_eq_true, beq_iff_eq] at ho
          rcases ho with (rfl | rfl) | rfl <;> rfl
        | _ => rfl
      clear hcs hkp he1 he2 hrow
      go_wp2_with (at_builtin; refine wpList_append_at rfl (.tmp 26) (.tmp 31) rfl w.heap.size av cv gs rfl hrow2 w2.heap.size 1 X Z rfl hx2 (by omega) hsz2 ?_; intro a' c' w3 hr hg)
      have HT : Hid (TS B w c most l N l2 (gs ++ [(X, Z)]) a' c' w3) := HF.out a' c' w3 hr hg
      clear HF hr hg
      go_roundw
      case rel => exact ⟨l2, _, a', c', by rw [List.length_append]; rfl, HT⟩
      case measure => simp; omega
    · have hd : trimE most l' = (l', []) := trim_done (by omega)
      have R : Hid (∀ n, Post (.returned (.slice av gs.length cv)) (wr.drewN n)) := fun n => by
        have S := HS'.below (below_drewN wr n)
        refine HP.out _ _ ?_
        have e2 : (trimE most l).2 = gs := by rw [S.e2, hd]; simp
        have e1 : (trimE most l).1 = l' := by rw [S.e1, hd]
        refine ⟨av, cv, by rw [e2], by rw [e2]; exact S.row, by rw [e1]; exact S.cs, S.kp⟩
      clear HS HS' H hun H0 HP
      generalize q.length = n at *
      go_wp2
      go_big_quiet (fail)
      have R2 := R.out nq
      clear R
      go_wp2
      exact R2
end Go.Proofs.Ytpfhgkgkbefigaa
