/-
  The landed cache: Keys.
-/
import Derived.Test.YtpfhgkgkbefigaaKs
set_option maxRecDepth 20000
namespace Go.Proofs.Ytpfhgkgkbefigaa
open Go.RowKit Go.Maps Go.Shelf

/-- append of one chunk to n. -/
theorem wpList_append_atN {w : World} {ops : Array Oper} {rest : List Oper} {o : Oper} {a : Act} {Q : Exit → Act → World → Prop} (hgd : o.guard = none) (s x : Operand)
    (ho : o.op = .call { callee := .builtin .append, args := #[s, x], argTypes := #[40, 40] }) (B : Nat) (av : Option Addr) (cv : Nat) (l : List (Int × Int)) (n : Nat) (hn : l.length = n) (hs : a.eval s = .slice av n cv) (hown : ARow B w av cv l)
    (b' sc : Nat) (X Z : Int) (hx : a.eval x = .slice (some ⟨b', 0, none⟩) 1 sc) (hX : w.heap[b']? = some (.cells #[.int .i64 X, .int .i64 Z] 31 (0, 0))) (hle : n + 1 ≤ 3000000) (hB : B ≤ w.heap.size)
    (h : ∀ a' c' w', ARow B w' a' c' (l ++ [(X, Z)]) → w.grownBy w' (Value.ownBlock (.slice av n cv)) → wpList Try.prog ops Q rest (a.put o.dst (.slice a' (n + 1) c')) w') : wpList Try.prog ops Q (o :: rest) a w := by
  subst hn
  exact wpList_append_at hgd s x ho B av cv l hs hown b' sc X Z hx hX hle hB h
theorem sortedFunc_c {B : Nat} {w : World} {c : Nat} {h : Hd} {av : Option Addr} {cap : Nat} {D : Nat → It} {q I : List Nat} {Dm : DataW Unit} (H : CC B w c h av cap D q I Dm) (hs : I.Pairwise fun a b => (D a).u < (D b).u) (Bm : Nat) (hm : w.cell? ⟨Bm, 0, none⟩ = some (.map (some h.mb))) :
    Calls Try.prog 36 #[.func (.func 44) #[] #[.pointer (some ⟨Bm, 0, none⟩)], .func (.func 34) #[] #[]] w fun e w' => ∃ a c, e = .returned (.slice a I.length c) ∧ PRow w.heap.size w' a I.length c I ∧ Below w.heap.size w w' := by
  obtain ⟨Post, hPost⟩ : ∃ Post : Ending → World → Prop, Post = fun e w' => ∃ a c, e = .returned (.slice a I.length c) ∧ PRow w.heap.size w' a I.length c I ∧ Below w.heap.size w w' := ⟨_, rfl⟩
  rw [← hPost]
  have HP : Hid (∀ a c w', PRow w.heap.size w' a I.length c I → Below w.heap.size w w' → Post (.returned (.slice a I.length c)) w') := fun a c w' h2 h3 => by rw [hPost]; exact ⟨a, c, rfl, h2, h3⟩
  clear hPost
  have hI : I.length ≤ 1000 := by have := H.mp.size_le; rw [H.mi.size] at this; exact this
  have hc := collect_c Bm h.mb H.mi hI w hm H.mp
  have HS : Hid (∀ a c xs w1, xs.Perm I → PRow w.heap.size w1 a xs.length c xs → Below w.heap.size w w1 → Calls Try.prog 43 #[.slice a xs.length c, .func (.func 34) #[] #[]] w1 fun e w' => e = .returned (.tuple #[]) ∧ Post (.returned (.slice a xs.length c)) w') := fun a c xs w1 h1 h2 h3 => by
    have hx := h1.length_eq
    by_cases h0 : I = []
    · subst h0
      have : xs = [] := List.eq_nil_of_length_eq_zero hx
      subst this
      refine (AnyF.slices_SortFunc_none (P := Try.prog) (ρ := sortF_ren) { sortF with } a c (.func (.func 34) #[] #[]) w1).mono ?_
      rintro e w' ⟨rfl, rfl⟩
      exact ⟨rfl, HP.out a c _ h2 h3⟩
    · have hpos : 0 < xs.length := by
        rw [hx]
        exact List.length_pos_iff.2 h0
      obtain ⟨g, cur, rfl, hg, _⟩ := h2.at hpos
      refine (sort_c hs h1 h2 (fun b hb => ?_) h0 hI).mono ?_
      · obtain ⟨p, hp⟩ := H.itemAt hb
        exact ⟨p, hp.same (h3.block b hp.lt)⟩
      · rintro e w' ⟨rfl, h4, h5⟩
        rw [hx] at h4 ⊢
        refine ⟨rfl, HP.out _ _ _ h4 (h3.grown h5 h3.size (fun k e => ?_))⟩
        obtain ⟨_, _, hb⟩ := h2.blk
        cases e
        exact hb
  clear H hs hm HP
  go_enter Try.func36, Try.ntmps36
  go_wp2_with fail
  refine hc.mono ?_
  clear hc
  rintro _ w1 ⟨a, c, xs, rfl, h1, h2, h3⟩
  have hso := HS.out a c xs w1 h1 h2 h3
  clear HS h1 h2 h3
  go_wp2_with fail
  refine hso.mono ?_
  clear hso
  rintro _ w2 ⟨rfl, R⟩
  go_wp2
  exact R
/-- What Keys answers. -/
def KeysSay (w : World) (l : List E) (e : Ending) (w' : World) : Prop :=
  ∃ a cp, e = .returned (.slice a (keysE l).length cp) ∧ ARow w.heap.size w' a cp (keysE l) ∧ Below w.heap.size w w'
/-- Where Keys stands. -/
structure KS (w : World) (I : List Nat) (l : List (Int × Int)) (ra : Option Addr) (rc : Nat) (k : Nat) (av : Option Addr) (cv : Nat) (wr : World) : Prop where
  row : PRow w.heap.size wr ra I.length rc I
  out : ARow w.heap.size wr av cv (l.take k)
  below : Below w.heap.size w wr
set_option maxHeartbeats 1000000 in
theorem keys_c {B : Nat} {w : World} {c : Nat} {most : Int} {l : List E} {N : Nat} (H : CS B w c most l N) : Calls Try.prog 21 #[.pointer (some ⟨c, 0, none⟩)] w (KeysSay w l) := by
  obtain ⟨h, av, cap, D, q, I, Dm, H⟩ := H
  obtain ⟨Post, hPost⟩ : ∃ Post : Ending → World → Prop, Post = KeysSay w l := ⟨_, rfl⟩
  rw [← hPost]
  have HP : Hid (∀ e w', KeysSay w l e w' → Post e w') := fun e w' h1 => by rw [hPost]; exact h1
  clear hPost
  have hI : I.length ≤ 1000 := by have := H.cc.mp.size_le; rw [H.cc.mi.size] at this; exact this
  have hkl : (keysE l).length = I.length := by unfold keysE; rw [List.length_map, H.eq, List.length_map]
  have HK : Hid (∀ k (hk : k < I.length), ∃ x z, (∃ h' : k < (keysE l).length, (keysE l)[k] = (x, z)) ∧ ∀ w1, Below w.heap.size w w1 → w1.cell? ⟨I.getD k 0, 0, none⟩ = some (.int .i64 x) ∧ w1.cell? ⟨I.getD k 0, 1, none⟩ = some (.int .i64 z)) := fun k hk => by
    obtain ⟨p, hp⟩ := H.cc.itemAt (getD_mem hk)
    refine ⟨(D (I.getD k 0)).x, (D (I.getD k 0)).z, ⟨by omega, ?_⟩, fun w1 hb => ?_⟩
    · unfold keysE
      rw [List.getElem_map]
      have : l[k]'(by have := hkl; unfold keysE at this; rw [List.length_map] at this; omega) = toE D q (I.getD k 0) := by
        simp only [H.eq, List.getElem_map]
        congr 1
        simp [hk]
      rw [this]
      rfl
    · have := hp.same (hb.block _ hp.lt)
      exact ⟨this.c0, this.c1⟩
  have c2 := H.cc.qh.hd.c2
  have hva := values_c h.mb w
  obtain ⟨w0, hw0⟩ : ∃ w0, w0 = w.alloc (.cells #[.map (some h.mb)] 49) := ⟨_, rfl⟩
  have hb0 : Below w.heap.size w w0 := by rw [hw0]; exact (Below.refl _ _).alloc (Nat.le_refl _) _
  have hbx : w0.cell? ⟨w.heap.size, 0, none⟩ = some (.map (some h.mb)) := by
    have := heap_alloc_new w (.cells #[.map (some h.mb)] 49)
    rw [hw0, cell_of_row _ _ 0 _ 49 (0, 0) this]
    rfl
  have hso := sortedFunc_c (H.cc.below hb0) H.srt w.heap.size hbx
  rw [← hw0] at hva
  have HB0 : Hid (Below w.heap.size w w0) := hb0
  clear H hw0 hbx hb0
  generalize h.mb = mb at *
  go_enter Try.func21, Try.ntmps21
  go_wp2_with fail
  refine hva.mono ?_
  clear hva
  rintro _ w1 ⟨rfl, hw1⟩
  subst hw1
  go_wp2_with fail
  refine hso.mono ?_
  clear hso
  rintro _ w2 ⟨ra, rc, rfl, hr, hb⟩
  have hsz0 := HB0.out.size
  have H0 : Hid (KS w I (keysE l) ra rc 0 none 0 w2) := by
    refine ⟨?_, ARow.nil _ _, HB0.out.trans (hb.mono hsz0)⟩
    refine ⟨hr.1, ?_⟩
    rcases hr.2 with h1 | ⟨g, cap', cur, hv, hbb, r⟩
    · exact .inl h1
    · exact .inr ⟨g, cap', cur, hv, Nat.le_trans hsz0 hbb, r⟩
  clear hr hb HB0 hsz0 c2
  go_wp2
  go_loopw [4, 6, 17] (fun vl _ vi wr => ∃ (k : Nat) (av : Option Addr) (cv : Nat), vi = .int .i64 (k : Int) ∧ vl = .slice av k cv ∧ k ≤ I.length ∧ Hid (KS w I (keysE l) ra rc k av cv wr)) (fun _ _ vi _ => I.length - (intOf vi).toNat)
  case atStart => exact ⟨0, none, 0, rfl, rfl, Nat.zero_le _, H0⟩
  case round =>
    obtain ⟨k, av, cv, rfl, rfl, hk, HS⟩ := hrel
    by_cases hlt : k < I.length
    · have hlt' : (k : Int) < (I.length : Int) := by omega
      have S := HS.out
      obtain ⟨x, z, ⟨hk', hxz⟩, hc⟩ := HK.out k hlt
      obtain ⟨b0, b1⟩ := hc wr S.below
      obtain ⟨g, cur, rfl, _⟩ := S.row.at (by omega)
      have r0 := (S.row.cell hlt).1
      have hln : ((keysE l).take k).length = k := by rw [List.length_take]; omega
      obtain ⟨w3, hw3⟩ : ∃ w3, w3 = wr.alloc (.cells #[.int .i64 x, .int .i64 z] 31) := ⟨_, rfl⟩
      have hb3 : Below wr.heap.size wr w3 := by rw [hw3]; exact (Below.refl _ _).alloc (Nat.le_refl _) _
      have hX : w3.heap[wr.heap.size]? = some (.cells #[.int .i64 x, .int .i64 z] 31 (0, 0)) := by rw [hw3]; exact heap_alloc_new wr _
      have hrow3 := S.out.below hb3
      have hsz3 : w.heap.size ≤ w3.heap.size := Nat.le_trans S.below.size hb3.size
      have HF : Hid (∀ a' c' w4, ARow w.heap.size w4 a' c' ((keysE l).take k ++ [(x, z)]) → w3.grownBy w4 (Value.ownBlock (.slice av ((keysE l).take k).length cv)) → KS w I (keysE l) (some ⟨g, 0, none⟩) rc (k + 1) a' c' w4) := fun a' c' w4 h1 h2 => by
        have hown : ∀ gg, Value.ownBlock (.slice av ((keysE l).take k).length cv) = some gg → w.heap.size ≤ gg := fun gg e => (World.ownsRow.lt hrow3 gg e).1
        refine ⟨?_, ?_, (S.below.trans (hb3.mono S.below.size)).grown h2 hsz3 hown⟩
        · obtain ⟨cur, hg, _⟩ := S.row.blk
          refine S.row.same (fun g' e => ?_)
          cases e
          have h3 := hb3.block g (Array.getElem?_eq_some_iff.1 hg).1
          refine (h2.block g (Nat.lt_of_lt_of_le (Array.getElem?_eq_some_iff.1 hg).1 hb3.size) (fun e => ?_)).trans h3
          have := hrow3.own e.symm
          subst this
          obtain ⟨cur', hg', _⟩ := hrow3.blk
          rw [h3, hg] at hg'
          cases hg'
        · have : (keysE l).take (k + 1) = (keysE l).take k ++ [(x, z)] := by
            rw [List.take_succ_eq_append_getElem hk', hxz]
          rw [this]
          exact h1
      clear HS S hc HP H0
      rw [hln] at HF
      unfold pv at r0
      generalize I.getD k 0 = b at *
      subst hw3
      go_wp2_with (at_builtin; refine wpList_append_atN rfl (.tmp 21) (.tmp 26) rfl w.heap.size av cv ((keysE l).take k) k hln rfl hrow3 wr.heap.size 1 x z rfl hX (by omega) hsz3 ?_; intro a' c' w4 h1 h2; have HT := HF.out a' c' w4 h1 h2; clear h1 h2 HF)
      go_roundw
      case rel => exact ⟨k + 1, a', c', by go_num, rfl, by omega, HT⟩
      case measure => simp [intOf]; omega
    · obtain rfl : k = I.length := by omega
      have S := HS.out
      have R : Post (.returned (.slice av I.length cv)) wr := by
        refine HP.out _ _ ⟨av, cv, by rw [hkl], ?_, S.below⟩
        have := S.out
        rw [List.take_of_length_le (by omega)] at this
        exact this
      clear HS S H0 HP HK
      go_wp2
      exact R
end Go.Proofs.Ytpfhgkgkbefigaa
