/-
  The landed cache: Put.
-/
import Derived.Test.YtpfhgkgkbefigaaCnd
set_option maxRecDepth 20000
namespace Go.Proofs.Ytpfhgkgkbefigaa
open Go.RowKit Go.Maps

theorem ownsMap_tight {w : World} {b n n' : Nat} {Dm : DataW Unit} (h : w.ownsMap Try.prog 31 ptrElem b n Dm) (hs : Maps.size Dm ≤ n') : w.ownsMap Try.prog 31 ptrElem b n' Dm := by
  obtain ⟨es, clock, hb, F, _, rfl⟩ := h
  refine ⟨es, clock, hb, F, ?_, rfl⟩
  simpa [Maps.size, length_sorted] using hs
/-- Item b with v. -/
def updV (D : Nat → It) (b : Nat) (v : Int) : Nat → It := fun k => if k = b then { D b with v := v } else D k
theorem updV_self (D : Nat → It) (b : Nat) (v : Int) : updV D b v b = { D b with v := v } := by simp [updV]
theorem updV_other {D : Nat → It} {b k : Nat} {v : Int} (h : k ≠ b) : updV D b v k = D k := by simp [updV, h]
theorem updV_u (D : Nat → It) (b : Nat) (v : Int) (k : Nat) : (updV D b v k).u = (D k).u := by
  unfold updV
  split
  · rename_i h; rw [h]
  · rfl
section
variable {B : Nat} {w : World} {c : Nat} {h : Hd} {av : Option Addr} {cap : Nat} {D : Nat → It} {q I : List Nat} {Dm : DataW Unit}
theorem CC.setV (H : CC B w c h av cap D q I Dm) {b : Nat} (hb : b ∈ I) (v : Int) : CC B (w.setCell ⟨b, 2, none⟩ (.int .i64 v)) c h av cap (updV D b v) q I Dm ∧ KeepT isP B w (w.setCell ⟨b, 2, none⟩ (.int .i64 v)) := by
  obtain ⟨p, hi, hpq, _⟩ := H.item hb
  have hc : Chg (fun k => k = b) w (w.setCell ⟨b, 2, none⟩ (.int .i64 v)) := Chg.set (F := fun k => k = b) (Chg.refl _ w) (.inl rfl) _ _
  have hF : ∀ k, k = b → Ff B w c av q b k := fun k hk => .inr (.inl hk)
  have hq : uq (updV D b v) q = uq D q := by
    funext k
    unfold uq fq
    exact updV_u D b v _
  refine ⟨H.next hb rfl ⟨H.qh.hd.other (blk_ne H.qh.hd hi (by decide)), H.qh.row.same (fun g e => ?_), fun k hk => ?_, H.qh.nod, H.qh.sz, H.qh.lo⟩ (by rw [hq]; exact H.hp) hc hF (fun k _ hk => updV_other hk) (by rw [updV_self]; exact ⟨rfl, rfl⟩) (fun k _ => Iff.rfl) (fun hn => ?_), H.keepT hb hc hF⟩
  · subst e
    obtain ⟨cur, hg, _⟩ := H.qh.row.blk
    exact Below.heap_setCell w ⟨b, 2, none⟩ _ g (blk_ne hg hi (by decide))
  · have hk0 := H.qh.it k hk
    by_cases e : q.getD k 0 = b
    · rw [e] at hk0 ⊢
      rw [updV_self]
      exact hk0.val v
    · rw [updV_other e]
      exact hk0.other e
  · rw [updV_self]
    exact (H.pin b hb hn).val v
/-- What was put is noted, and used. -/
theorem CC.putEnd (cc : CC B w c h av cap D q I Dm) {most : Int} {N : Nat} (mo : h.most = most) (us : h.uses ≤ N) (hN : N ≤ 900) (ln : I.length ≤ N + 1) {b : Nat} (hb : b ∈ I) (srt : (I.erase b).Pairwise fun a b => (D a).u < (D b).u) (top : ∀ a ∈ I, a ≠ b → (D a).u ≤ h.uses)
    {l : List E} (hl : l = (I.erase b).map (toE D q)) {x z v : Int} {pn : Bool} (ex : (D b).x = x) (ez : (D b).z = z) (hpn : decide (b ∉ q) = pn) :
    (w.cell? ⟨b, 2, none⟩ = some (.int .i64 (D b).v) ∧ w.frozen? ⟨b, 2, none⟩ = false) ∧ Calls Try.prog 27 #[.pointer (some ⟨c, 0, none⟩), pv b] (w.setCell ⟨b, 2, none⟩ (.int .i64 v)) fun e w' => e = .returned (.tuple #[]) ∧ CS B w' c most (l ++ [⟨x, z, v, pn⟩]) (N + 1) ∧ KeepT isP B w w' := by
  obtain ⟨p, hi⟩ := cc.itemAt hb
  refine ⟨⟨hi.c2, hi.free 2⟩, ?_⟩
  obtain ⟨cv, kv⟩ := cc.setV hb v
  refine (use_c cv hb (by omega)).mono ?_
  rintro e w' ⟨rfl, hU⟩
  have hU' := hU
  obtain ⟨_, _, _, hk⟩ := hU'
  have hsub : ∀ a ∈ I.erase b, a ≠ b := fun a ha => ((cc.mi.nod.mem_erase_iff).1 ha).1
  have := CI.used (l := l) (v := v) cv mo us ln hb (srt.imp (fun {a d} hlt => by rw [updV_u, updV_u]; exact hlt)) (fun a ha hne => by rw [updV_u]; exact top a ha hne) hU (by rw [hl]; exact (map_same (fun a ha => ⟨updV_other (hsub a ha), Iff.rfl⟩)).symm) (by rw [updV_self])
  rw [updV_self, hpn] at this
  refine ⟨rfl, ?_, kv.trans hk⟩
  rw [← ex, ← ez]
  exact this
/-- A new item that the map has by now is pushed. -/
theorem CC.pushNew (H : CC B w c h av cap D q I Dm) {x z : Int} (hx : I64 x) (hz : I64 z) (hlk : lookI D I x z = none) (hn : I.length ≤ 900) {b : Nat} (hb : w.heap.size ≤ b) {w3 : World}
    (hBel : ∀ k, k < w.heap.size → k ≠ h.mb → w3.heap[k]? = w.heap[k]?) (hos : w3.os = w.os ∧ w3.tape = w.tape ∧ w3.output = w.output ∧ w.heap.size ≤ w3.heap.size) (hit : Item w3 b ⟨x, z, 0, 0⟩ 0) (hmp : w3.ownsMap Try.prog 31 ptrElem h.mb 1001 (Dm.put (klA x z) (pd (some b)))) :
    Calls Try.prog 26 #[hv c, .iface 54 (pv b)] w3 fun e w4 => e = .returned (.tuple #[]) ∧ ∃ av' cap' D' q' Dm', CC B w4 c h av' cap' D' q' (I ++ [b]) Dm' ∧ KeepT isP B w w4 ∧ b ∉ I ∧ b ∈ q' ∧ (D' b).x = x ∧ (D' b).z = z ∧ (∀ a ∈ I, D' a = D a ∧ (a ∈ q' ↔ a ∈ q)) := by
  have hbI : b ∉ I := fun hm => by
    obtain ⟨p, hp⟩ := H.itemAt hm
    have := hp.lt
    omega
  obtain ⟨D', hD'⟩ : ∃ D' : Nat → It, D' = fun k => if k = b then ⟨x, z, 0, 0⟩ else D k := ⟨_, rfl⟩
  have dS : D' b = ⟨x, z, 0, 0⟩ := by rw [hD']; simp
  have dO : ∀ k, k ≠ b → D' k = D k := fun k hk => by rw [hD']; simp [hk]
  have nI : ∀ k ∈ I, k ≠ b := fun k hk e => hbI (e ▸ hk)
  have nm : ∀ (k : Nat) (o : Obj), w.heap[k]? = some o → (∀ es clock, o ≠ .map es clock) → w3.heap[k]? = w.heap[k]? := fun k o ho hne => by
    refine hBel k (Array.getElem?_eq_some_iff.1 ho).1 (fun e => ?_)
    obtain ⟨es, clock, hm, _⟩ := H.mp
    rw [← e, ho] at hm
    cases hm
    exact hne _ _ rfl
  have Q3 : QH B w3 c h av cap D' q := by
    refine ⟨(nm _ _ H.qh.hd (fun _ _ e => by cases e)).trans H.qh.hd, H.qh.row.same (fun g e => ?_), fun i hi => ?_, H.qh.nod, H.qh.sz, H.qh.lo⟩
    · subst e
      obtain ⟨cur, hg, _⟩ := H.qh.row.blk
      exact nm _ _ hg (fun _ _ e => by cases e)
    · rw [dO _ (nI _ (H.sub _ (getD_mem hi)))]
      exact (H.qh.it i hi).same (nm _ _ (H.qh.it i hi) (fun _ _ e => by cases e))
  have hh : Heap q.length (uq D' q) := H.hp.less (Nat.le_refl _) (fun k hk => by
    unfold uq fq
    simp only [dO _ (nI _ (H.sub _ (getD_mem hk)))])
  have hBb : B ≤ b := Nat.le_trans H.bl hb
  refine (hpush_c Q3 hh (b := b) (p := 0) (by rw [dS]; exact hit) (fun hm => hbI (H.sub b hm)) hBb (by have := H.qlen; omega)).mono ?_
  rintro e w4 ⟨rfl, av', cap', q', h1, h2, h3, h4⟩
  have hbq' : b ∈ q' := h1.mem_iff.2 (by simp)
  have hmem : ∀ k, k ≠ b → (k ∈ q' ↔ k ∈ q) := fun k hk => by
    rw [h1.mem_iff, List.mem_append, List.mem_singleton]
    exact ⟨fun h => h.resolve_right hk, .inl⟩
  have hmi : MapIs D' I Dm := H.mi.perm (List.Perm.refl _) (fun k hk => by rw [dO k (nI k hk)]; exact ⟨rfl, rfl⟩)
  have hmi2 := hmi.put (H.mp.tidy lawA) (b := b) hbI (by rw [dS]; exact hx) (by rw [dS]; exact hz) (fun a ha => by rw [dS, dO a (nI a ha)]; exact lookI_none hlk a ha)
  rw [dS] at hmi2
  -- the blocks that Push may turn, seen from here
  have off : ∀ (k : Nat) (o : Obj), w3.heap[k]? = some o → (∀ cs fz, o ≠ .cells cs 53 fz) → (∀ cs fz, o ≠ .cells cs 54 fz) → k ∉ q → k ≠ b → w4.heap[k]? = w3.heap[k]? := fun k o ho n1 n2 n3 n4 => by
    refine h4.block k (Array.getElem?_eq_some_iff.1 ho).1 (fun hf => ?_)
    rcases hf with (h5 | h5 | h5) | h5 | ⟨_, cur, h5⟩
    · have := Q3.hd
      unfold HdAt at this
      rw [← h5, ho] at this
      cases this
      exact n1 _ _ rfl
    · subst h5
      obtain ⟨cur, hg, _⟩ := Q3.row.blk
      rw [ho] at hg
      cases hg
      exact n2 _ _ rfl
    · exact n3 h5
    · exact n4 h5
    · rw [ho] at h5
      cases h5
      exact n2 _ _ rfl
  refine ⟨rfl, av', cap', D', q', _, ⟨h2, h3, fun k hk => ?_, fun k hk hkq => ?_, fun k hk => ?_, ?_, H.mlo, hmi2⟩, ?_, hbI, hbq', by rw [dS], by rw [dS], fun a ha => ⟨dO a (nI a ha), hmem a (nI a ha)⟩⟩
  · by_cases e : k = b
    · subst e; simp
    · exact List.mem_append_left _ (H.sub k ((hmem k e).1 hk))
  · have hkb : k ≠ b := fun e => hkq (e ▸ hbq')
    have hkI : k ∈ I := by
      rcases List.mem_append.1 hk with h5 | h5
      · exact h5
      · exact absurd (List.mem_singleton.1 h5) hkb
    have hkq0 : k ∉ q := fun h5 => hkq ((hmem k hkb).2 h5)
    have hp0 := H.pin k hkI hkq0
    have hp3 : Item w3 k (D k) (-1) := hp0.same (nm _ _ hp0 (fun _ _ e => by cases e))
    rw [dO k hkb]
    exact hp3.same (off k _ hp3 (fun _ _ e => by cases e) (fun _ _ e => by cases e) hkq0 hkb)
  · rcases List.mem_append.1 hk with h5 | h5
    · exact H.lo k h5
    · rw [List.mem_singleton.1 h5]; exact hBb
  · have hm4 : w4.ownsMap Try.prog 31 ptrElem h.mb 1001 (Dm.put (klA x z) (pd (some b))) := by
      have hm3 := hmp
      obtain ⟨es, clock, hm, _⟩ := hm3
      refine ownsMap_same hmp (off h.mb _ hm (fun _ _ e => by cases e) (fun _ _ e => by cases e) (fun h5 => ?_) (fun h5 => ?_))
      · obtain ⟨i, hi, e⟩ := mem_getD h5
        have := Q3.it i hi
        rw [e] at this
        unfold Item at this
        rw [hm] at this
        cases this
      · unfold Item at hit
        rw [← h5, hm] at hit
        cases hit
    refine ownsMap_tight hm4 ?_
    have := hmi2.size
    rw [List.length_append, List.length_singleton] at this
    omega
  · -- what is no cache's is as it was
    refine ⟨h4.os.trans hos.1, h4.tape.trans hos.2.1, h4.output.trans hos.2.2.1, Nat.le_trans hos.2.2.2 h4.size, fun k hk hs => ?_, fun k o ho ht => ?_⟩
    · have e3 : w3.heap[k]? = w.heap[k]? := hBel k hs (fun e => by have := H.mlo; omega)
      refine (h4.block k (Nat.lt_of_lt_of_le hs hos.2.2.2) (fun hf => ?_)).trans e3
      rcases hf with (h5 | h5 | h5) | h5 | ⟨h5, _⟩
      · have := H.qh.lo.1; omega
      · subst h5
        obtain ⟨cur, _, hg⟩ := Q3.row.blk
        omega
      · have := H.qh.lo.2 k h5; omega
      · omega
      · omega
    · have e3 := nm k o ho (fun _ _ e => by rw [e] at ht; cases ht)
      have o3 := e3.trans ho
      rw [off k o o3 (fun _ _ e => by rw [e] at ht; cases ht) (fun _ _ e => by rw [e] at ht; cases ht) (fun h5 => ?_) (fun h5 => ?_)]
      · exact o3
      · obtain ⟨p, hp⟩ := H.itemAt (H.sub k h5)
        unfold Item at hp
        rw [ho] at hp
        cases hp
        cases ht
      · have := (Array.getElem?_eq_some_iff.1 ho).1
        omega
end
end Go.Proofs.Ytpfhgkgkbefigaa
