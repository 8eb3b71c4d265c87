/-
  The landed darken: a cell is taken.
  The landed darken: what the function does that is shown the neighbours of a darkened cell.
-/
import Derived.Test.YtmfjmcaaoljjlaaDoorRk0
import Derived.Test.YtmfjmcaaoljjlaaDoorRtl
import Derived.Test.YtmfjmcaaoljjlaaDoorRa40
set_option maxRecDepth 20000
namespace Go.Proofs.YtmfjmcaaoljjlaaDoor
section
open C Go.RowKit L
attribute [local go_sem] Oper.semAt_some

/-- One more at the end of the list of shadows. -/
theorem wpList_append_shad {w : World} {ops : Array Oper} {rest : List Oper} {o : Oper} {a : Act} {Q : Exit → Act → World → Prop} (hgd : o.guard = none) (s x : Operand)
    (ho : o.op = .call { callee := .builtin .append, args := #[s, x], argTypes := #[62, 62] }) (B : Nat) (av : Option Addr) (n cv : Nat) (d : List Nat) (ls0 : List Int) (hn : d.length = n) (hs : a.eval s = .slice av n cv) (hown : OwnD w B av cv d ls0)
    (ad : Addr) (y : Nat) (hx : a.eval x = .slice (some ad) 1 1) (hnews : ∀ j u, [Value.int .i64 (y : Int), .int .i64 (ls0.getD y 0)][j]? = some u → w.cell? (ad.add j) = some u) (hle : n ≤ 100000000) (hB : B ≤ w.heap.size)
    (h : ∀ a' c' w', Hid (OwnD w' B a' c' (d ++ [y]) ls0) → w.grownBy w' (Value.ownBlock (.slice av n cv)) → wpList Tryd.prog ops Q rest (a.put o.dst (.slice a' (n + 1) c')) w') : wpList Tryd.prog ops Q (o :: rest) a w := by
  obtain ⟨i, hi, hz0, hz1, hz2⟩ := info_parts info64
  subst hn
  refine wpList_append_own_at w hgd s x 62 ho B 64 i _ 2 16 Tryd.underlying62 hi hz0 hz1 hz2 rfl (by decide) _ _ _ hs hown ad 1 1 [.int .i64 (y : Int), .int .i64 (ls0.getD y 0)] hx rfl hnews (by simp [Value.oneCell']) (by unfold maxLen; omega) (by omega) hB ?_
  intro v' w' h1 h2 _ h4
  have e : ∃ a' c', v' = .slice a' (d.length + 1) c' := by
    rcases h1.2 with ⟨hv, hn⟩ | ⟨g, cap, _, hv, _⟩
    · omega
    · exact ⟨_, _, hv⟩
  obtain ⟨a', c', rfl⟩ := e
  refine h a' c' w' ?_ h2
  show OwnD _ _ _ _ _ _
  unfold OwnD
  rw [List.length_append, shads_snoc]
  exact h1
theorem cell_two_int (W : World) (T : TypeId) (u v : Value) : ∀ (j : Nat) (x : Value), [u, v][j]? = some x → (W.alloc (.cells #[u, v] T)).cell? (Addr.add ⟨W.heap.size, 0, none⟩ j) = some x := by
  intro j x h
  have e := cell_of_row (W.alloc (.cells #[u, v] T)) W.heap.size j _ T (0, 0) (heap_alloc_new W _)
  match j with
  | 0 => simpa [Addr.add] using e.trans h
  | 1 => simpa [Addr.add] using e.trans h
  | j + 2 => simp at h
/-- What the region of take reads. -/
structure ReadsT (b5 bx q o g i : Nat) (sl ln v : Value) (w : World) : Prop where
  s : w.cell? ⟨b5, 0, none⟩ = some sl
  b : w.cell? ⟨bx, 0, none⟩ = some (.pointer (some ⟨q, o, none⟩))
  l : w.cell? ⟨q, o + 2, none⟩ = some ln
  a : w.cell? ⟨g, i, none⟩ = some v
theorem ReadsT.on {b5 bx q o g i : Nat} {sl ln v : Value} {w w' : World} (h : ReadsT b5 bx q o g i sl ln v w) (hb : Below w.heap.size w w') : ReadsT b5 bx q o g i sl ln v w' := ⟨cell_below h.s hb, cell_below h.b hb, cell_below h.l hb, cell_below h.a hb⟩
set_option maxRecDepth 1000000 in
set_option maxHeartbeats 4000000 in
theorem take_c (e : LE) (o : LO e) (B : World) (hM : LM e B) (b5 bx b6 : Nat) (ls0 : List Int) (hl0 : Lv ls0) (d : List Nat) (a : Option Addr) (c : Nat) (ls : List Int) (w : World) (h : Dq e B b5 bx b6 ls0 d a c ls w) (i : Nat) (hi : i < e.n) (hn : i ∉ d) :
    Calls Tryd.prog 37 #[.int .i64 (i : Int), .pointer (some ⟨b5, 0, none⟩), .pointer (some ⟨bx, 0, none⟩)] w fun x w' => x = .returned (.tuple #[]) ∧ (∃ a' c', Dq e B b5 bx b6 ls0 (d ++ [i]) a' c' (ls.set i 0) w') ∧ Kp64 w w' := by
  obtain ⟨Post, hPost⟩ : ∃ Post : Ending → World → Prop, Post = fun x w' => x = .returned (.tuple #[]) ∧ (∃ a' c', Dq e B b5 bx b6 ls0 (d ++ [i]) a' c' (ls.set i 0) w') ∧ Kp64 w w' := ⟨_, rfl⟩
  rw [← hPost]
  have HP : Hid (∀ w' a' c', Dq e B b5 bx b6 ls0 (d ++ [i]) a' c' (ls.set i 0) w' → Kp64 w w' → Post (.returned (.tuple #[])) w') := fun w' a' c' h1 h2 => by rw [hPost]; exact ⟨rfl, ⟨a', c', h1⟩, h2⟩
  clear hPost
  have hgl : ls.getD i 0 = ls0.getD i 0 := by
    have h1 := h.dm i
    rw [dim_out hn] at h1
    have h2 := (h.lv i).1
    have h3 := (hl0 i).1
    unfold li at h1
    omega
  have HS : Hid (LO e ∧ LM e B ∧ i < e.n ∧ i ∉ d ∧ ls.getD i 0 = ls0.getD i 0) := ⟨o, hM, hi, hn, hgl⟩
  have hlv := h.lv i
  have hsm : d.length ≤ 100000000 := by have := h.small; have := o.nb; omega
  have H0 : Hid (Dq e B b5 bx b6 ls0 d a c ls w) := h
  have hnb := o.nb
  obtain ⟨A, hA⟩ : ∃ A, ls.getD i 0 = A := ⟨_, rfl⟩
  have HA : Hid (ls.getD i 0 = A ∧ ls0.getD i 0 = A) := ⟨hA, hgl.symm.trans hA⟩
  rw [hA] at hlv
  obtain ⟨a0, a15⟩ := hlv
  have wA : IntKind.i64.wrap A = A := by rw [IntKind.wrap_i64]; omega
  obtain ⟨n, hnn⟩ : ∃ n, e.n = n := ⟨_, rfl⟩
  have Hnn : Hid (e.n = n) := hnn
  rw [hnn] at hi hnb
  have hin : (i : Int) < (n : Int) := by omega
  obtain ⟨Ln, hLn⟩ : ∃ Ln, d.length = Ln := ⟨_, rfl⟩
  have HLn : Hid (d.length = Ln) := hLn
  rw [hLn] at hsm
  clear hn hM h hA hgl hnn hl0 hLn o
  go_enter Tryd.func37, Tryd.ntmps37
  go_wp2_with fail
  refine region_L (ReadsT b5 bx e.q e.o e.g i (.slice a Ln c) (.slice (some ⟨e.g, 0, none⟩) n e.lc) (.int .u8 A)) 13 (by kernel_rfl) ?_
  have HD1 : Hid (Dq e B b5 bx b6 ls0 d a c ls w.drew ∧ Kp64 w w.drew) := ⟨H0.out.on ((Below.refl _ w).drew), Kp64.below ((Below.refl _ w).drew)⟩
  clear H0
  generalize w.drew = va at *
  have hHeld : ReadsT b5 bx e.q e.o e.g i (.slice a Ln c) (.slice (some ⟨e.g, 0, none⟩) n e.lc) (.int .u8 A) va := by
    have h := HD1.out.1
    have hM := h.lm HS.out.1 HS.out.2.1
    have ca := h.pl.cell (k := i) (by rw [h.len]; exact HS.out.2.2.1)
    rw [HA.out.1] at ca
    have l2 := hM.l2
    rw [Hnn.out] at l2
    refine ⟨(cell_of_row va b5 0 _ 62 (0, 0) h.h5).trans ?_, (cell_of_row va bx 0 _ 67 (0, 0) h.hb).trans rfl, l2, ca⟩
    rw [HLn.out]; rfl
  have hne : Nonempty (Sub (ReadsT b5 bx e.q e.o e.g i (.slice a Ln c) (.slice (some ⟨e.g, 0, none⟩) n e.lc) (.int .u8 A))) := ⟨⟨_, hHeld⟩⟩
  have k1 : ∀ s : Sub (ReadsT b5 bx e.q e.o e.g i (.slice a Ln c) (.slice (some ⟨e.g, 0, none⟩) n e.lc) (.int .u8 A)), s.w.cell? ⟨b5, 0, none⟩ = some (.slice a Ln c) := fun s => s.ok.s
  have k2 : ∀ s : Sub (ReadsT b5 bx e.q e.o e.g i (.slice a Ln c) (.slice (some ⟨e.g, 0, none⟩) n e.lc) (.int .u8 A)), s.w.cell? ⟨bx, 0, none⟩ = some (.pointer (some ⟨e.q, e.o, none⟩)) := fun s => s.ok.b
  have k3 : ∀ s : Sub (ReadsT b5 bx e.q e.o e.g i (.slice a Ln c) (.slice (some ⟨e.g, 0, none⟩) n e.lc) (.int .u8 A)), s.w.cell? ⟨e.q, e.o + 2, none⟩ = some (.slice (some ⟨e.g, 0, none⟩) n e.lc) := fun s => s.ok.l
  have k4 : ∀ s : Sub (ReadsT b5 bx e.q e.o e.g i (.slice a Ln c) (.slice (some ⟨e.g, 0, none⟩) n e.lc) (.int .u8 A)), s.w.cell? ⟨e.g, i, none⟩ = some (.int .u8 A) := fun s => s.ok.a
  refine take_L (i := 0) rfl (by kernel_rfl) (by kernel_rfl) (by kernel_rfl) (by kernel_rfl) (fun _ _ _ _ h => h) (by exact hHeld) (fun K hK => ?_)
  go_simp
  refine hK _ ?_
  clear hK K
  refine take_L (i := 1) rfl (by kernel_rfl) (by kernel_rfl) (by kernel_rfl) (by kernel_rfl) (fun _ _ _ _ h => h) (by exact hHeld) (fun K hK => ?_)
  go_simp
  refine hK _ ?_
  clear hK K
  refine take_L (i := 2) rfl (by kernel_rfl) (by kernel_rfl) (by kernel_rfl) (by kernel_rfl) (fun _ _ _ _ h => h) (by exact hHeld) (fun K hK => ?_)
  go_simp
  refine hK _ ?_
  clear hK K
  refine take_L (i := 3) rfl (by kernel_rfl) (by kernel_rfl) (by kernel_rfl) (by kernel_rfl) (fun _ _ _ _ h => h) (by exact hHeld) (fun K hK => ?_)
  go_simp
  refine hK _ ?_
  clear hK K
  refine take_L (i := 4) rfl (by kernel_rfl) (by kernel_rfl) (by kernel_rfl) (by kernel_rfl) (fun _ _ _ _ h => h) (by exact hHeld) (fun K hK => ?_)
  go_simp
  refine hK _ ?_
  clear hK K
  refine take_L (i := 5) rfl (by kernel_rfl) (by kernel_rfl) (by kernel_rfl) (by kernel_rfl) (fun _ _ _ _ h => h) (by exact hHeld) (fun K hK => ?_)
  go_simp
  refine hK _ ?_
  clear hK K
  refine take_L (i := 6) rfl (by kernel_rfl) (by kernel_rfl) (by kernel_rfl) (by kernel_rfl) (fun _ _ _ _ h => h) (by exact hHeld) (fun K hK => ?_)
  go_simp
  refine hK _ ?_
  clear hK K
  refine take_L (i := 7) rfl (by kernel_rfl) (by kernel_rfl) (by kernel_rfl) (by kernel_rfl) (fun _ _ _ _ h => h) (by exact hHeld) (fun K hK => ?_)
  go_simp
  refine hK _ ?_
  clear hK K
  refine take_L (i := 8) rfl (by kernel_rfl) (by kernel_rfl) (by kernel_rfl) (by kernel_rfl) (fun _ _ _ _ h => h) (by exact hHeld) (fun K hK => ?_)
  go_simp
  refine hK _ ?_
  clear hK K
  refine take_L (i := 9) rfl (by kernel_rfl) (by kernel_rfl) (by kernel_rfl) (by kernel_rfl) (fun _ _ _ _ h => h) (by exact hHeld) (fun K hK => ?_)
  go_simp
  refine hK _ ?_
  clear hK K
  refine take_L (i := 10) rfl (by kernel_rfl) (by kernel_rfl) (by kernel_rfl) (by kernel_rfl) (fun _ _ _ _ h => h) (by exact hHeld) (fun K hK => ?_)
  go_simp
  refine hK _ ?_
  clear hK K
  clear hne k1 k2 k3 k4
  have Hb1 : Hid (Below va.heap.size va (va.alloc (.cells #[.int .i64 (i : Int), .int .i64 A] 64))) := (Below.refl _ _).alloc (Nat.le_refl _) _
  have hH1 := hHeld.on Hb1.out
  refine one_L (i := 11) (by kernel_rfl) rfl (fun K hK => ?_)
  go_simp
  refine hK.out _ _ (fun _ => hH1) ?_
  clear hK K hHeld
  have HD2 : Hid (Dq e B b5 bx b6 ls0 d a c ls (va.alloc (.cells #[.int .i64 (i : Int), .int .i64 A] 64)) ∧ Kp64 w (va.alloc (.cells #[.int .i64 (i : Int), .int .i64 A] 64))) := ⟨HD1.out.1.on Hb1.out, HD1.out.2.trans (Kp64.below Hb1.out)⟩
  have HB : Hid (B.heap.size ≤ (va.alloc (.cells #[.int .i64 (i : Int), .int .i64 A] 64)).heap.size) := HD2.out.1.gr.size
  have hnews : ∀ j u, [Value.int .i64 (i : Int), .int .i64 (ls0.getD i 0)][j]? = some u → (va.alloc (.cells #[.int .i64 (i : Int), .int .i64 A] 64)).cell? (Addr.add ⟨va.heap.size, 0, none⟩ j) = some u := by
    rw [HA.out.2]
    exact cell_two_int va 64 _ _
  have Hnews : Hid _ := hnews
  clear hnews
  refine one_W (i := 12) (by kernel_rfl) rfl (fun K hK => ?_)
  refine wpList_append_shad rfl _ _ rfl B.heap.size a Ln c d ls0 HLn.out rfl HD2.out.1.own ⟨va.heap.size, 0, none⟩ i rfl Hnews.out hsm HB.out ?_
  intro a9 c9 w9 HO3 hg3
  have hg3' := hg3
  rw [← HLn.out] at hg3'
  have k9 : ∀ {b : Nat} {cs : Array Value} {t : TypeId}, (va.alloc (.cells #[.int .i64 (i : Int), .int .i64 A] 64)).heap[b]? = some (.cells cs t (0, 0)) → t ≠ 64 → w9.heap[b]? = some (.cells cs t (0, 0)) := fun {b cs t} hb ht => by
    refine (hg3'.block b (Array.getElem?_eq_some_iff.1 hb).1 (fun q => ?_)).trans hb
    obtain ⟨_, cu, hcu⟩ := ownD_block HD2.out.1.own q.symm
    rw [hb] at hcu
    cases hcu
    exact ht rfl
  have h59 := k9 HD2.out.1.h5 (by decide)
  have f1 : w9.cell? ⟨b5, 0, none⟩ = some (.slice a Ln c) := (cell_of_row w9 b5 0 _ 62 (0, 0) h59).trans (by rw [HLn.out]; rfl)
  have f2 : w9.frozen? ⟨b5, 0, none⟩ = false := frozen_of_row w9 b5 0 _ 62 h59
  have HB9 : Hid (B.grownBy w9 (some e.g)) := by
    have h := HD2.out.1
    refine ⟨hg3'.os.trans h.gr.os, hg3'.tape.trans h.gr.tape, hg3'.output.trans h.gr.output, Nat.le_trans h.gr.size hg3'.size, fun j hj hne => (hg3'.block j (Nat.lt_of_lt_of_le hj h.gr.size) (fun q => ?_)).trans (h.gr.block j hj hne)⟩
    have := (ownD_block h.own q.symm).1
    omega
  have HM9 : Hid (LM e w9 ∧ w9.heap[bx]? = some (.cells #[.pointer (some ⟨e.q, e.o, none⟩)] 67 (0, 0)) ∧ Pre w9 e.g 5 ls) := by
    refine ⟨HS.out.2.1.grown HS.out.1 HB9.out, k9 HD2.out.1.hb (by decide), ?_⟩
    obtain ⟨cu, hcu, hr⟩ := HD2.out.1.pl
    exact ⟨cu, k9 hcu (by decide), hr⟩
  have hH9 : ReadsT b5 bx e.q e.o e.g i (.slice a Ln c) (.slice (some ⟨e.g, 0, none⟩) n e.lc) (.int .u8 A) w9 := by
    have ca := HM9.out.2.2.cell (k := i) (by rw [HD2.out.1.len]; exact HS.out.2.2.1)
    rw [HA.out.1] at ca
    have l2 := HM9.out.1.l2
    rw [Hnn.out] at l2
    exact ⟨f1, (cell_of_row w9 bx 0 _ 67 (0, 0) HM9.out.2.1).trans rfl, l2, ca⟩
  refine hK.out _ _ (fun _ => hH9) ?_
  clear hK K
  have HE : Hid (Dq e B b5 bx b6 ls0 (d ++ [i]) a9 c9 (ls.set i 0) ((w9.setCell ⟨b5, 0, none⟩ (.slice a9 (Ln + 1) c9)).setCell ⟨e.g, i, none⟩ (.int .u8 0)) ∧ Kp64 w ((w9.setCell ⟨b5, 0, none⟩ (.slice a9 (Ln + 1) c9)).setCell ⟨e.g, i, none⟩ (.int .u8 0))) := by
    have := HD2.out.1.push HS.out.2.2.1 HS.out.2.2.2.1 HO3.out hg3'
    rw [show (d ++ [i]).length = Ln + 1 by rw [List.length_append, HLn.out]; rfl] at this
    exact ⟨this.1, HD2.out.2.trans this.2⟩
  have HN : Hid (bx ≠ b5 ∧ e.g ≠ b5 ∧ e.q ≠ b5) := by
    have h5 := h59
    refine ⟨fun q => ?_, fun q => ?_, fun q => ?_⟩
    · have := HM9.out.2.1; rw [q, h5] at this; cases this
    · obtain ⟨cu, hcu, _⟩ := HM9.out.2.2; rw [q, h5] at hcu; cases hcu
    · have h1 := HD2.out.1.n5
      have h2 := World.block_lt_of_cell? B _ HS.out.2.1.l0
      have h2 : e.q < B.heap.size := h2
      omega
  clear hH1 HB HD1 HD2 HO3 hg3 hg3' Hb1 k9 h59 Hnews
  refine one_L (i := 13) (by kernel_rfl) rfl (fun K hK => ?_)
  go_simp
  refine hK.out _ _ (fun h => absurd rfl h) ?_
  clear hK K
  refine done_L (by kernel_rfl) ?_ _
  have xb : (w9.setCell ⟨b5, 0, none⟩ (.slice a9 (Ln + 1) c9)).cell? ⟨bx, 0, none⟩ = some (.pointer (some ⟨e.q, e.o, none⟩)) := by
    rw [World.cell?_setCell_other w9 _ _ _ (fun q => HN.out.1 (congrArg Addr.block q).symm)]
    exact hH9.b
  have xl : (w9.setCell ⟨b5, 0, none⟩ (.slice a9 (Ln + 1) c9)).cell? ⟨e.q, e.o + 2, none⟩ = some (.slice (some ⟨e.g, 0, none⟩) n e.lc) := by
    rw [World.cell?_setCell_other w9 _ _ _ (fun q => HN.out.2.2 (congrArg Addr.block q).symm)]
    exact hH9.l
  have xa : (w9.setCell ⟨b5, 0, none⟩ (.slice a9 (Ln + 1) c9)).cell? ⟨e.g, i, none⟩ = some (.int .u8 A) := by
    rw [World.cell?_setCell_other w9 _ _ _ (fun q => HN.out.2.1 (congrArg Addr.block q).symm)]
    exact hH9.a
  have xf : (w9.setCell ⟨b5, 0, none⟩ (.slice a9 (Ln + 1) c9)).frozen? ⟨e.g, i, none⟩ = false := by
    obtain ⟨cu, hcu, _⟩ := HM9.out.2.2
    exact frozen_of_row _ e.g i cu 5 ((Below.heap_setCell w9 ⟨b5, 0, none⟩ _ e.g HN.out.2.1).trans hcu)
  generalize w9.setCell ⟨b5, 0, none⟩ (.slice a9 (Ln + 1) c9) = w10 at *
  have R := HP.out _ a9 c9 HE.out.1 HE.out.2
  clear HE HP HN HM9 HB9 HS HA hH9 f1 f2 HLn Hnn
  go_wp2
  exact bodyPost_end (results_none rfl _ _ _) rfl R
end
section
open C Go.RowKit L

/-- What a shown neighbour must be. -/
def Nb (s : L.Sys) (l : Nat → Nat) (d : List Nat) (m i : Nat) : Prop := i ∈ d ∨ l i = 0 ∨ (s.pass i = true → l i + s.loss i ≠ l m)
theorem Nb.more {s : L.Sys} {l : Nat → Nat} {d : List Nat} {m i : Nat} (h : Nb s l d m i) (x : Nat) : Nb s l (d ++ [x]) m i := h.imp (fun q => List.mem_append_left _ q) id
theorem L.Shut.more {s : L.Sys} {l : Nat → Nat} {d : List Nat} {k : Nat} (h : L.Shut s l d k) (hk : k ≤ d.length) (x : Nat) : L.Shut s l (d ++ [x]) k := fun m hm i ha => by
  rw [List.take_append_of_le_length hk] at hm
  exact (h m hm i ha).imp (fun q => List.mem_append_left _ q) id
theorem L.Shut.next {s : L.Sys} {l : Nat → Nat} {d : List Nat} {k m : Nat} (h : L.Shut s l d k) (hk : d[k]? = some m) (hn : ∀ i, s.adj m i → Nb s l d m i) : L.Shut s l d (k + 1) := fun x hx i ha => by
  obtain ⟨hlt, he⟩ := List.getElem?_eq_some_iff.1 hk
  rw [List.take_succ_eq_append_getElem hlt, he] at hx
  rcases List.mem_append.1 hx with hx | hx
  · exact h x hx i ha
  · rw [List.mem_singleton.1 hx] at ha ⊢
    exact hn i ha
/-- What does not change while cells are darkened. -/
structure DE where
  e : LE
  B : World
  b5 : Nat
  bx : Nat
  b6 : Nat
  ls0 : List Int
  c : Nat
  src0 : Nat → Nat
/-- The cells that were taken: the changed one is among them, and all whose own light is another. -/
structure Dc (r : DE) (o : LO r.e) (k : Nat) (d : List Nat) (a : Option Addr) (cc : Nat) (ls : List Int) (w : World) : Prop where
  q : Dq r.e r.B r.b5 r.bx r.b6 r.ls0 d a cc ls w
  mem : r.c ∈ d
  src : ∀ i, i < r.e.n → i ∉ d → (r.e.sys o.bx).src i = r.src0 i
  sh : L.Shut (r.e.sys o.bx) (li r.ls0) d k
  kd : k ≤ d.length
/-- While the neighbours of the cell m are shown. -/
def KI (r : DE) (o : LO r.e) (b9 k m : Nat) (dn : List Nat) (w : World) : Prop := ∃ d a cc ls, Dc r o k d a cc ls w ∧ d[k]? = some m ∧ w.heap[b9]? = some (.cells #[.int .i64 (r.ls0.getD m 0)] 3 (0, 0)) ∧ ∀ i ∈ dn, Nb (r.e.sys o.bx) (li r.ls0) d m i
theorem Dc.on {r : DE} {o : LO r.e} {k : Nat} {d : List Nat} {a : Option Addr} {cc : Nat} {ls : List Int} {w w' : World} (h : Dc r o k d a cc ls w) (hb : Below w.heap.size w w') : Dc r o k d a cc ls w' := ⟨h.q.on hb, h.mem, h.src, h.sh, h.kd⟩
theorem KI.on {r : DE} {o : LO r.e} {b9 k m : Nat} {dn : List Nat} {w w' : World} (h : KI r o b9 k m dn w) (hb : Below w.heap.size w w') : KI r o b9 k m dn w' := by
  obtain ⟨d, a, cc, ls, h1, h2, h3, h4⟩ := h
  exact ⟨d, a, cc, ls, h1.on hb, h2, (hb.block _ (Array.getElem?_eq_some_iff.1 h3).1).trans h3, h4⟩
set_option maxRecDepth 1000000 in
set_option maxHeartbeats 4000000 in
theorem dark2_c (r : DE) (o : LO r.e) (hM : LM r.e r.B) (hl0 : Lv r.ls0) (b9 k m : Nat) (hm : m < r.e.n) (dn : List Nat) (u j : Nat) (_hu : u < 6) (hn : nbr r.e.W r.e.D r.e.T m u = some j) (w : World) (h : KI r o b9 k m dn w) :
    Calls Tryd.prog 40 #[.int .i64 (j : Int), .pointer (some ⟨r.bx, 0, none⟩), .pointer (some ⟨b9, 0, none⟩), .pointer (some ⟨r.b6, 0, none⟩)] w fun x w' => x = .returned (.tuple #[]) ∧ KI r o b9 k m (dn ++ [j]) w' ∧ Ty77 w w' := by
  obtain ⟨Post, hPost⟩ : ∃ Post : Ending → World → Prop, Post = fun x w' => x = .returned (.tuple #[]) ∧ KI r o b9 k m (dn ++ [j]) w' ∧ Ty77 w w' := ⟨_, rfl⟩
  rw [← hPost]
  have HP : Hid (∀ w', KI r o b9 k m (dn ++ [j]) w' → Ty77 w w' → Post (.returned (.tuple #[])) w') := fun w' h1 h2 => by rw [hPost]; exact ⟨rfl, h1, h2⟩
  clear hPost
  have hj : j < r.e.n := nbr_lt o.bx.w0 o.bx.d0 hm hn
  obtain ⟨d, a, cc, ls, hD, hk, h9, hdn⟩ := h
  have HS : Hid (LO r.e ∧ LM r.e r.B ∧ Lv r.ls0 ∧ j < r.e.n ∧ m < r.e.n) := ⟨o, hM, hl0, hj, hm⟩
  have HD : Hid (Dc r o k d a cc ls w ∧ d[k]? = some m ∧ w.heap[b9]? = some (.cells #[.int .i64 (r.ls0.getD m 0)] 3 (0, 0)) ∧ ∀ i ∈ dn, Nb (r.e.sys o.bx) (li r.ls0) d m i) := ⟨hD, hk, h9, hdn⟩
  have hMw := hD.q.lm o hM
  have xb : w.cell? ⟨r.bx, 0, none⟩ = some (.pointer (some ⟨r.e.q, r.e.o, none⟩)) := (cell_of_row w r.bx 0 _ 67 (0, 0) hD.q.hb).trans rfl
  have x9 : w.cell? ⟨b9, 0, none⟩ = some (.int .i64 (r.ls0.getD m 0)) := (cell_of_row w b9 0 _ 3 (0, 0) h9).trans rfl
  have y0 := hMw.l0
  have y2 := hMw.l2
  have ca := hD.q.pl.cell (k := j) (by rw [hD.q.len]; exact hj)
  have hA0 := hD.q.lv j
  have hH0 := hl0 m
  obtain ⟨A, hA⟩ : ∃ A, ls.getD j 0 = A := ⟨_, rfl⟩
  obtain ⟨H, hH⟩ : ∃ H, r.ls0.getD m 0 = H := ⟨_, rfl⟩
  obtain ⟨F, hF⟩ : ∃ F, lossF (r.e.ks.getD j 0) = F := ⟨_, rfl⟩
  have hFb := lossBd (r.e.ks.getD j 0)
  have HE : Hid (ls.getD j 0 = A ∧ r.ls0.getD m 0 = H ∧ lossF (r.e.ks.getD j 0) = F) := ⟨hA, hH, hF⟩
  rw [hA] at ca hA0
  rw [hH] at x9 hH0
  rw [hF] at hFb
  have HLs : Hid (∀ s : Since w, Calls Tryd.prog 31 #[.pointer (some ⟨r.e.p, 0, none⟩), .int .i64 (j : Int)] s.w fun x w' => x = .returned (.int .i64 (F : Int)) ∧ Below s.w.heap.size s.w w') := fun s => by
    have := loss_c r.e o j hj s.w (hMw.bm.on s.bel)
    rwa [hF] at this
  obtain ⟨a0, a15⟩ := hA0
  obtain ⟨g0, g15⟩ := hH0
  obtain ⟨f1, f16⟩ := hFb
  have wg : IntKind.i64.wrap (H - (F : Int)) = H - (F : Int) := by rw [IntKind.wrap_i64]; omega
  obtain ⟨n, hnn⟩ : ∃ n, r.e.n = n := ⟨_, rfl⟩
  have hnb := o.nb
  rw [hnn] at y2 hnb hj
  have hjn : (j : Int) < n := by omega
  clear hD hk h9 hdn hMw hA hH hF hM hl0 hn hnn
  -- the cell is not taken
  have HN : Hid (∀ w', Below w.heap.size w w' → ¬ (0 < A ∧ A = H - (F : Int)) → Post (.returned (.tuple #[])) w') := fun w' hb hno => by
    obtain ⟨h1, h2, h3, h4⟩ := HD.out
    refine HP.out w' ?_ (Ty77.below hb)
    refine ⟨d, a, cc, ls, h1.on hb, h2, (hb.block _ (Array.getElem?_eq_some_iff.1 h3).1).trans h3, fun i hi => ?_⟩
    rcases List.mem_append.1 hi with hi | hi
    · exact h4 i hi
    · rw [List.mem_singleton.1 hi]
      by_cases hjd : j ∈ d
      · exact .inl hjd
      · have e1 := h1.q.dm j
        rw [dim_out hjd] at e1
        unfold li at e1
        rw [HE.out.1] at e1
        by_cases hz : A = 0
        · right; left
          unfold li
          rw [← e1, hz]; rfl
        · refine .inr (.inr fun hp => ?_)
          have hp' : passK (r.e.ks.getD j 0) = true := by rw [← sys_pass (e := r.e) o.bx]; exact hp
          have e2 := lossF_pass hp'
          rw [sys_loss, ← e2, HE.out.2.2]
          unfold li
          rw [← e1, HE.out.2.1]
          intro q
          exact hno ⟨by omega, by omega⟩
  go_enter Tryd.func40, Tryd.ntmps40
  go_wp2_with fail
  refine wp_region_since (by kernel_rfl) (by kernel_rfl) ?_
  have hsome := since_some w
  have q0 := fun s : Since w => Since.cell x9 s
  have q1 := fun s : Since w => Since.cell xb s
  have q2 := fun s : Since w => Since.cell y0 s
  by_cases hA : 0 < A
  case neg =>
    repeat (go_big_quiet_step (first | (go_at_call 31; exact Calls.since (HLs.out _))))
    refine wpQuiet_nil ?_
    rintro _ ⟨s, rfl⟩
    have R := HN.out s.w s.bel (fun q => hA q.1)
    generalize s.w = w1 at *
    clear hsome q0 q1 q2 HLs HN HP HD HE HS x9 xb y0 y2 ca
    go_wp2
    exact bodyPost_end (results_none rfl _ _ _) rfl R
  by_cases hAe : A = H - (F : Int)
  case neg =>
    repeat (go_big_quiet_step (first | (go_at_call 31; exact Calls.since (HLs.out _))))
    refine wpQuiet_nil ?_
    rintro _ ⟨s, rfl⟩
    have R := HN.out s.w s.bel (fun q => hAe q.2)
    generalize s.w = w1 at *
    clear hsome q0 q1 q2 HLs HN HP HD HE HS x9 xb y0 y2 ca
    go_wp2
    exact bodyPost_end (results_none rfl _ _ _) rfl R
  have HAe : Hid (A = H - (F : Int)) := hAe
  obtain rfl : H = A + (F : Int) := by omega
  have wg2 : IntKind.i64.wrap (A + (F : Int) - (F : Int)) = A := by rw [IntKind.wrap_i64]; omega
  clear hAe wg
  repeat (go_big_quiet_step (first | (go_at_call 31; exact Calls.since (HLs.out _))))
  refine wpQuiet_nil ?_
  rintro _ ⟨s, rfl⟩
  have hT := take_c r.e o r.B HS.out.2.1 r.b5 r.bx r.b6 r.ls0 HS.out.2.2.1 d a cc ls s.w (HD.out.1.q.on s.bel) j HS.out.2.2.2.1 (fun q => by
    have e1 := HD.out.1.q.dm j
    rw [dim_in q] at e1
    unfold li at e1
    rw [HE.out.1] at e1
    omega)
  have x6 : s.w.cell? ⟨r.b6, 0, none⟩ = some (.func (.func 37) #[] #[.pointer (some ⟨r.b5, 0, none⟩), .pointer (some ⟨r.bx, 0, none⟩)]) := (cell_of_row s.w r.b6 0 _ 61 (0, 0) (HD.out.1.q.on s.bel).h6).trans rfl
  have HD1 : Hid (w.heap.size ≤ s.w.heap.size ∧ s.w.heap[b9]? = some (.cells #[.int .i64 (r.ls0.getD m 0)] 3 (0, 0)) ∧ Ty77 w s.w) := ⟨s.bel.size, (s.bel.block _ (Array.getElem?_eq_some_iff.1 HD.out.2.2.1).1).trans HD.out.2.2.1, Ty77.below s.bel⟩
  generalize s.w = w1 at *
  clear hsome q0 q1 q2 HLs HN x9 xb y0 y2 ca
  go_wp2_with fail
  refine hT.mono ?_
  rintro _ w2 ⟨rfl, ⟨a', c', hq⟩, hkp⟩
  have R := HP.out w2 (by
    obtain ⟨h1, h2, h3, h4⟩ := HD.out
    refine ⟨d ++ [j], a', c', ls.set j 0, ⟨hq, List.mem_append_left _ h1.mem, fun i hi hid => h1.src i hi (fun q => hid (List.mem_append_left _ q)), h1.sh.more h1.kd j, ?_⟩, ?_, hkp _ _ _ HD1.out.2.1 (by decide) (by decide) (by decide), fun i hi => ?_⟩
    · have := h1.kd
      rw [List.length_append]
      omega
    · rw [List.getElem?_append_left (List.getElem?_eq_some_iff.1 h2).1]
      exact h2
    · rcases List.mem_append.1 hi with hi | hi
      · exact (h4 i hi).more j
      · rw [List.mem_singleton.1 hi]
        exact .inl (List.mem_append_right _ List.mem_cons_self)) (HD1.out.2.2.trans hkp.ty)
  clear hT hq hkp HD1 HD HE HS HP x6
  go_wp2
  exact bodyPost_end (results_none rfl _ _ _) rfl R
theorem dark_sh (r : DE) (o : LO r.e) (hM : LM r.e r.B) (hl0 : Lv r.ls0) (b9 k m : Nat) (hm : m < r.e.n) : Sh r.e m 40 r.bx b9 r.b6 (KI r o b9 k m) where
  bm dn w h := by
    obtain ⟨d, a, cc, ls, h1, _⟩ := h
    exact (h1.q.lm o hM).bm
  on dn w w' h hb := h.on hb
  call u j dn w hu _ hn h := dark2_c r o hM hl0 b9 k m hm dn u j hu hn w h
theorem dark3_c (r : DE) (o : LO r.e) (hM : LM r.e r.B) (hl0 : Lv r.ls0) (b9 k m : Nat) (hm : m < r.e.n) (w : World) (h : KI r o b9 k m [] w) :
    Calls Tryd.prog 29 #[.pointer (some ⟨r.e.p, 0, none⟩), .int .i64 (m : Int), .func (.func 40) #[] #[.pointer (some ⟨r.bx, 0, none⟩), .pointer (some ⟨b9, 0, none⟩), .pointer (some ⟨r.b6, 0, none⟩)]] w fun x w' => x = .returned (.tuple #[]) ∧ KI r o b9 k m (nbl r.e.W r.e.D r.e.T m) w' :=
  around40_c r.e o m hm r.bx b9 r.b6 _ (dark_sh r o hM hl0 b9 k m hm) w h
/-- A cell's level is all there is. -/
theorem shone_c (e : LE) (ls : List Int) (hll : ls.length = e.n) (hlv : Lv ls) (_hnb : e.n ≤ 294912) (i : Nat) (hi : i < e.n) (w : World) (hM : LM e w) (hp : Pre w e.g 5 ls) :
    Calls Tryd.prog 39 #[.pointer (some ⟨e.q, e.o, none⟩), .int .i64 (i : Int)] w fun x w' => x = .returned (.bool (decide (ls.getD i 0 = 15))) ∧ Below w.heap.size w w' := by
  have y2 := hM.l2
  have ca := hp.cell (k := i) (by rw [hll]; exact hi)
  obtain ⟨a0, a15⟩ := hlv i
  obtain ⟨A, hA⟩ : ∃ A, ls.getD i 0 = A := ⟨_, rfl⟩
  rw [hA] at ca a0 a15 ⊢
  obtain ⟨n, hnn⟩ : ∃ n, e.n = n := ⟨_, rfl⟩
  rw [hnn] at y2 hi _hnb
  have hin : (i : Int) < n := by omega
  clear hM hp hll hlv hA hnn
  go_enter Tryd.func39, Tryd.ntmps39
  go_wp2
  go_ret
  refine ⟨?_, Below.refl _ _⟩
  simp
  rfl
end
end Go.Proofs.YtmfjmcaaoljjlaaDoor
