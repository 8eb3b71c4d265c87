/-
  The document's cache: Get.
-/
import Derived.Test.YtpfhgkgkbefigaaRp
set_option maxRecDepth 20000
namespace Go.Proofs.Ytpfhgkgkbefigaa
open Go.RowKit Go.Maps

theorem rget_c {B : Nat} {w : World} {r : Nat} {m : Int} {l : List E} {av : Option Addr} {cv : Nat} (h : Rc B w r m l av cv) (ha : Apart l) (hsz : l.length ≤ 900) (x z : Int) :
    Calls Try.prog 12 #[.pointer (some ⟨r, 0, none⟩), valA x z] w fun e w' => e = .returned (.tuple #[.int .i64 (valE (findE l x z)), .bool (findE l x z).isSome]) ∧ (∃ a' c', Rc B w' r m (getE l x z) a' c') ∧ KeepT isD B w w' := by
  obtain ⟨Post, hPost⟩ : ∃ Post : Ending → World → Prop, Post = fun e w' => e = .returned (.tuple #[.int .i64 (valE (findE l x z)), .bool (findE l x z).isSome]) ∧ (∃ a' c', Rc B w' r m (getE l x z) a' c') ∧ KeepT isD B w w' := ⟨_, rfl⟩
  rw [← hPost]
  have HP : Hid (∀ w' a' c' v t, valE (findE l x z) = v → (findE l x z).isSome = t → Rc B w' r m (getE l x z) a' c' → KeepT isD B w w' → Post (.returned (.tuple #[.int .i64 v, .bool t])) w') := fun w' a' c' v t e1 e2 h1 h3 => by rw [hPost, e1, e2]; exact ⟨rfl, ⟨a', c', h1⟩, h3⟩
  clear hPost
  obtain ⟨hb1, d0, d1⟩ := box_new w x z
  go_enter Try.func12, Try.ntmps12
  go_upto_region 1 with fail
  generalize w.alloc (.cells #[.int .i64 x, .int .i64 z] 31) = w1 at *
  have R1 := h.on hb1
  have hp := rplace_c R1 x z
  have hrlt := h.lt
  have hrow : ∀ g, av = some ⟨g, 0, none⟩ → g < w.heap.size := fun g e => by
    obtain ⟨o, ho, _⟩ := h.blks g (.inr e)
    exact (Array.getElem?_eq_some_iff.1 ho).1
  have HK : Hid (∀ w2, Below w1.heap.size w1 w2 → Rc B w2 r m l av cv ∧ KeepT isD B w w2 ∧ w.heap.size ≤ w2.heap.size) := fun w2 hb2 => ⟨R1.on hb2, (KeepT.of_below hb1).trans (KeepT.of_below hb2), Nat.le_trans hb1.size hb2.size⟩
  clear R1 hb1
  cases hfi : l.findIdx? (atE x z) with
  | none =>
    obtain ⟨hrm, hfn⟩ := rem_idx_none hfi
    have hpl : placeE l x z = -1 := by unfold placeE; rw [hfi]
    rw [hpl] at hp
    have hge : getE l x z = l := by unfold getE; rw [hfn]
    rw [hfn, hge] at HP
    clear h hpl hrm hfn hfi
    have HR : Hid (∀ w2, Below w1.heap.size w1 w2 → Post (.returned (.tuple #[.int .i64 0, .bool false])) w2) := fun w2 hb2 => HP.out w2 _ _ _ _ rfl rfl (HK.out w2 hb2).1 (HK.out w2 hb2).2.1
    clear HP HK
    go_wp2_with (go_at_call 28; refine hp.mono ?_; clear hp; rintro _ w2 ⟨rfl, hb2⟩; have R := HR.out w2 hb2; clear HR)
    exact R
  | some k =>
    obtain ⟨hk, hrm, hfn, ekx, ekz⟩ := rem_idx ha hfi
    have hpl : placeE l x z = (k : Int) := by unfold placeE; rw [hfi]
    have hge : getE l x z = (l.take k ++ l.drop (k + 1)) ++ [l[k]] := by unfold getE; rw [hfn, ← hrm]
    rw [hpl] at hp
    rw [hfn, hge] at HP
    have hkl : (k : Int) < (l.length : Int) := by omega
    rcases h.row.form with ⟨_, he, _⟩ | ⟨g, rfl⟩
    · rw [he] at hk; simp at hk
    have HC : Hid (∀ w2, Below w1.heap.size w1 w2 → w2.cell? ⟨r, 1, none⟩ = some (.slice (some ⟨g, 0, none⟩) l.length cv) ∧ w2.cell? ⟨g, k * 4, none⟩ = some (.int .i64 l[k].x) ∧ w2.cell? ⟨g, k * 4 + 1, none⟩ = some (.int .i64 l[k].z) ∧ w2.cell? ⟨g, k * 4 + 2, none⟩ = some (.int .i64 l[k].v) ∧ w2.cell? ⟨g, k * 4 + 3, none⟩ = some (.bool l[k].p)) := fun w2 hb2 => by
      have R2 := (HK.out w2 hb2).1
      exact ⟨R2.c1, R2.row.cell hk⟩
    have hcv : l.length ≤ cv ∧ cv ≤ maxLen := by
      obtain ⟨cur, _, _, hcv, hmx, _⟩ := h.row.blk
      exact ⟨hcv, hmx⟩
    have hln : (l.take k ++ l.drop (k + 1)).length = l.length - 1 := by rw [List.length_append, List.length_take, List.length_drop]; omega
    generalize l[k] = ek at *
    obtain ⟨X, Z, V, Y⟩ := ek
    simp only at ekx ekz HC
    subst ekx ekz
    have HW : Hid (∀ w2, Below w1.heap.size w1 w2 → Calls Try.prog 29 #[.pointer (some ⟨r, 0, none⟩), .int .i64 (k : Int)] (w2.alloc (.cells #[.int .i64 X, .int .i64 Z, .int .i64 V, .bool Y] 43)) fun e w' => e = .returned (.tuple #[]) ∧ ∃ a' c', PushS r w2.heap.size ⟨X, Z, V, Y⟩ a' (l.length - 1) c' w'.drew ∧ Hid (ERow B (w'.drew.alloc (.cells #[.int .i64 X, .int .i64 Z, .int .i64 V, .bool Y] 43)) a' c' (l.take k ++ l.drop (k + 1)) ∧ B ≤ (w'.drew.alloc (.cells #[.int .i64 X, .int .i64 Z, .int .i64 V, .bool Y] 43)).heap.size ∧ ∀ w3 a3 c3, ERow B w3 a3 c3 ((l.take k ++ l.drop (k + 1)) ++ [⟨X, Z, V, Y⟩]) → (w'.drew.alloc (.cells #[.int .i64 X, .int .i64 Z, .int .i64 V, .bool Y] 43)).grownBy w3 (Value.ownBlock (.slice a' (l.length - 1 : Nat) c')) →
        PushS r w2.heap.size ⟨X, Z, V, Y⟩ a' (l.length - 1) c' w3 ∧ w3.frozen? ⟨r, 1, none⟩ = false ∧ (w3.setCell ⟨r, 1, none⟩ (.slice a3 (l.length - 1 + 1 : Nat) c3)).cell? ⟨w2.heap.size, 2, none⟩ = some (.int .i64 V) ∧ Post (.returned (.tuple #[.int .i64 V, .bool true])) (w3.setCell ⟨r, 1, none⟩ (.slice a3 (l.length - 1 + 1 : Nat) c3)))) := fun w2 hb2 => by
      obtain ⟨R2, K2, hsz2⟩ := HK.out w2 hb2
      have hba : Below w2.heap.size w2 (w2.alloc (.cells #[.int .i64 X, .int .i64 Z, .int .i64 V, .bool Y] 43)) := (Below.refl _ w2).alloc (Nat.le_refl _) _
      have R3 := R2.on hba
      have hE3 : Ent (w2.alloc (.cells #[.int .i64 X, .int .i64 Z, .int .i64 V, .bool Y] 43)) w2.heap.size ⟨X, Z, V, Y⟩ := heap_alloc_new w2 _
      refine (rwithout_c R3 hk).mono ?_
      rintro e w' ⟨rfl, ⟨a', c', q1, q2⟩, q3⟩
      refine ⟨rfl, a', c', ?_⟩
      have hE4 : Ent w' w2.heap.size ⟨X, Z, V, Y⟩ := (q3.block w2.heap.size (Array.getElem?_eq_some_iff.1 hE3).1 (by omega)).trans hE3
      obtain ⟨s1, s2⟩ := push_end q1 (by rw [hln]; omega) hE4 (fun e => by
        subst e
        obtain ⟨_, _, hlo, _⟩ := q2.blk
        rw [World.size_alloc] at hlo
        omega)
      rw [hln] at s1 s2
      refine ⟨s1, s2.out.1, s2.out.2.1, fun w3 a3 c3 t1 t2 => ?_⟩
      obtain ⟨u1, u2, u3, u4, u5⟩ := s2.out.2.2 w3 a3 c3 t1 t2
      exact ⟨u1, u2, u5.cells.2.2.1, HP.out _ _ _ _ _ rfl rfl u3 (((K2.trans (KeepT.of_below hba)).trans (KeepT.of_chg q3 (fun k' o hk' ho => by
        subst hk'
        rw [R3.hd] at ho
        cases ho
        exact ⟨R3.lo, rfl⟩))).trans u4)⟩
    generalize hlm : l.take k ++ l.drop (k + 1) = lm at *
    clear HK HP h hpl hrm hfn hfi hrow hge hlm
    go_wp2_with (first
      | (go_at_call 28; refine hp.mono ?_; clear hp; rintro _ w2 ⟨rfl, hb2⟩; obtain ⟨cc1, cc2, cc3, cc4, cc5⟩ := HC.out w2 hb2; have hw := HW.out w2 hb2; obtain ⟨b, hb⟩ : ∃ b, w2.heap.size = b := ⟨_, rfl⟩; clear HC HW)
      | (go_at_call 29; refine hw.mono ?_; clear hw; rintro _ w4 ⟨rfl, a1, c1, HS, HE⟩))
    rw [hb] at HS HE

    clear cc1 cc2 cc3 cc4 cc5 hb2 hb
    have hn1 : l.length - 1 ≤ 900 := by omega
    generalize l.length - 1 = n1 at *
    refine region_L (PushS r b ⟨X, Z, V, Y⟩ a1 n1 c1) 10 (by kernel_rfl) ?_
    generalize w4.drew = va at *
    have hHeld : PushS r b ⟨X, Z, V, Y⟩ a1 n1 c1 va := HS
    have hne : Nonempty (Sub (PushS r b ⟨X, Z, V, Y⟩ a1 n1 c1)) := ⟨⟨_, hHeld⟩⟩
    have k0 : ∀ s : Sub (PushS r b ⟨X, Z, V, Y⟩ a1 n1 c1), s.w.cell? ⟨r, 1, none⟩ = some (.slice a1 n1 c1) := fun s => s.ok.c1
    have k1 : ∀ s : Sub (PushS r b ⟨X, Z, V, Y⟩ a1 n1 c1), s.w.cell? ⟨b, 0, none⟩ = some (.int .i64 X) := fun s => s.ok.ent.cells.1
    have k2 : ∀ s : Sub (PushS r b ⟨X, Z, V, Y⟩ a1 n1 c1), s.w.cell? ⟨b, 1, none⟩ = some (.int .i64 Z) := fun s => s.ok.ent.cells.2.1
    have k3 : ∀ s : Sub (PushS r b ⟨X, Z, V, Y⟩ a1 n1 c1), s.w.cell? ⟨b, 2, none⟩ = some (.int .i64 V) := fun s => s.ok.ent.cells.2.2.1
    have k4 : ∀ s : Sub (PushS r b ⟨X, Z, V, Y⟩ a1 n1 c1), s.w.cell? ⟨b, 3, none⟩ = some (.bool Y) := fun s => s.ok.ent.cells.2.2.2
    clear HS
    refine take_L (i := 0) rfl (by kernel_rfl) (by kernel_rfl) (by kernel_rfl) (by kernel_rfl) (fun _ _ _ _ h => h) (by exact hHeld) (fun K hK => ?_)
    go_simp
    refine hK _ ?_
    clear hK K
    refine take_L (i := 1) rfl (by kernel_rfl) (by kernel_rfl) (by kernel_rfl) (by kernel_rfl) (fun _ _ _ _ h => h) (by exact hHeld) (fun K hK => ?_)
    go_simp
    refine hK _ ?_
    clear hK K
    refine take_L (i := 2) rfl (by kernel_rfl) (by kernel_rfl) (by kernel_rfl) (by kernel_rfl) (fun _ _ _ _ h => h) (by exact hHeld) (fun K hK => ?_)
    go_simp
    refine hK _ ?_
    clear hK K
    refine take_L (i := 3) rfl (by kernel_rfl) (by kernel_rfl) (by kernel_rfl) (by kernel_rfl) (fun _ _ _ _ h => h) (by exact hHeld) (fun K hK => ?_)
    go_simp
    refine hK _ ?_
    clear hK K
    refine take_L (i := 4) rfl (by kernel_rfl) (by kernel_rfl) (by kernel_rfl) (by kernel_rfl) (fun _ _ _ _ h => h) (by exact hHeld) (fun K hK => ?_)
    go_simp
    refine hK _ ?_
    clear hK K
    refine take_L (i := 5) rfl (by kernel_rfl) (by kernel_rfl) (by kernel_rfl) (by kernel_rfl) (fun _ _ _ _ h => h) (by exact hHeld) (fun K hK => ?_)
    go_simp
    refine hK _ ?_
    clear hK K
    refine one_L (i := 6) (by kernel_rfl) rfl (fun K hK => ?_)
    go_simp
    refine hK.out _ _ (fun _ => hHeld.alloc _) ?_
    clear hK K
    refine one_W (i := 7) (by kernel_rfl) rfl (fun K hK => ?_)
    refine wpList_append_es rfl _ _ rfl B a1 c1 n1 lm hln rfl HE.out.1 ⟨va.heap.size, 0, none⟩ 1 1 [⟨X, Z, V, Y⟩] rfl rfl (ent_new va ⟨X, Z, V, Y⟩) (by omega) HE.out.2.1 ?_
    intro a3 c3 w3 hr3 hg3
    obtain ⟨hS3, hf3, e2, R⟩ := HE.out.2.2 w3 a3 c3 hr3 hg3
    refine hK.out _ _ (fun _ => hS3) ?_
    have c31 := hS3.c1
    clear hK K hne k0 k1 k2 k3 k4 hr3 hg3 HE hHeld
    have HS3 : Hid (PushS r b ⟨X, Z, V, Y⟩ a1 n1 c1 w3) := hS3
    clear hS3
    refine one_L (i := 8) (by kernel_rfl) rfl (fun K hK => ?_)
    go_simp
    refine hK.out _ _ (fun _ => HS3.out) ?_
    clear hK K
    refine one_L (i := 9) (by kernel_rfl) rfl (fun K hK => ?_)
    go_simp
    refine hK.out _ _ (fun _ => HS3.out) ?_
    clear hK K
    refine one_L (i := 10) (by kernel_rfl) rfl (fun K hK => ?_)
    go_simp
    refine hK.out _ _ (fun h => absurd rfl h) ?_
    clear hK K HS3
    refine done_L (by kernel_rfl) ?_ _
    go_wp2
    exact R
end Go.Proofs.Ytpfhgkgkbefigaa
