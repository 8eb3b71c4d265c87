/-
  The program's disk: Read.
-/
import Derived.Test.YtdjhlpllffakpaaPlen
namespace Go.Proofs.Ytdjhlpllffakpaa
open Go.RowKit Go.Maps

section
variable {P : Program} {ops : Array Oper} {Q : Exit → Act → World → Prop} {md : Region.Mode} {S : World → Prop} {n : Nat}
/-- What only reads is taken first, its value given. -/
theorem give_L {i : Nat} {oi : Oper} {fuel : Nat} {listed : Array Bool} {a : Act} {w : World} (v : Value) (hi : ops[i]? = some oi)
    (hs : Region.noSelect ops = true) (hf : Region.free md ops listed i = true) (hr : (Region.ready md ops listed).contains i = true) (hin : waitsB md ops n i = true)
    (hQ : ∀ v c a w, Q (.panic c) (a.put oi.dst v) w → Q (.panic c) a w) (hS : S w) (hw : Region.wanted oi (yielded ops a.tmps) = true)
    (hv : ∀ s : Sub S, (execOp a.eval oi).run P s.w = .ok (.value v) s.w) (h : wpAnyL P md ops Q S n fuel (listed.setIfInBounds i true) (a.put oi.dst v) w) :
    wpAnyL P md ops Q S n (fuel + 1) listed a w :=
  wpAnyL_first hi (Region.noSelect_spec hs) (hQ v) hin fuel listed a w (Region.free_spec hi hf) (by simpa using hr) (Or.inl ⟨hw, fun w hS => hv ⟨w, hS⟩⟩) hS h
end
theorem step_plain {ops : Array Oper} {o : Oper} {a : Act} {w : World} {K : Act → World → Prop} {Q : Exit → Act → World → Prop} {E : Prop} (hgd : o.guard = none) (h : Oper.wp Try.prog o a w K Q) :
    if Region.wanted o (yielded ops a.tmps) = true then Oper.wp Try.prog o a w K Q else E := by
  rw [if_pos (by simp [Region.wanted, hgd])]
  exact h
theorem size88 : (Try.prog.info? 88).map (·.size) = some 32 := by kernel_rfl
theorem exec_load {o : Oper} {ρ : Operand → Value} {ty : TypeId} {x : Operand} {p v : Value} {w : World} (ho : o.op = .load ty x) (hx : ρ x = p) (h : (Instr.loadAt ty p).run Try.prog w = .ok v w) :
    (execOp ρ o).run Try.prog w = .ok (.value v) w := by
  unfold execOp
  simp only [ho, hx, Sem.run_bind, h, Result.andThen_ok, Sem.run_pure]
theorem exec_lookup {o : Oper} {ρ : Operand → Value} {t : TypeId} {m x : Operand} {p k v : Value} {w : World} (ho : o.op = .lookup t m x false) (hm : ρ m = p) (hx : ρ x = k) (h : (Instr.lookup t p k false).run Try.prog w = .ok v w) :
    (execOp ρ o).run Try.prog w = .ok (.value v) w := by
  unfold execOp
  simp only [ho, hm, hx, Sem.run_bind, h, Result.andThen_ok, Sem.run_pure]
theorem Blk.range {w : World} {g : Nat} {t : TypeId} {cs : List Int} (h : Blk w g t cs) : w.rangeAt g 0 (cs.map (Value.int .u8)) := fun j _ hj => by
  rw [Nat.zero_add, cell_of_row w g j _ t (0, 0) h]
  simp only [vals]
  rw [List.getElem?_toArray]
  exact hj
theorem Blk.load {w : World} {g : Nat} {t : TypeId} {cs : List Int} (h : Blk w g t cs) (hl : cs.length = 32) : (Instr.loadAt 88 (.pointer (some ⟨g, 0, none⟩))).run Try.prog w = .ok (.agg (vals cs)) w :=
  run_loadAt_mid w g 0 88 _ _ h.range Try.underlying88 (by kernel_rfl) (by rw [size88, List.length_map, hl])
theorem ones (cs : List Int) : (vals cs).all (·.oneCell') = true := by simp [vals, Value.oneCell']

/-- What the program's Read answers. -/
def PReadSay (R : Int × List Int) (w : World) (e : Ending) (w' : World) : Prop :=
  Below w.heap.size w w' ∧ ((R.2 = [] ∧ e = .returned (.tuple #[.slice none 0 0, .int .i64 R.1])) ∨ ∃ p, w.heap.size ≤ p ∧ e = .returned (.tuple #[.slice (some ⟨p, 0, none⟩) 32 32, .int .i64 R.1]) ∧ Blk w' p 88 R.2 ∧ R.2.length = 32 ∧ ∀ z ∈ R.2, 0 ≤ z ∧ z ≤ 255)
/-- The disk, and the file in its box. -/
def AtR (F : Nat → Prop) (g : Nat) (S : St) (mb ml : Option Nat) (H : Nat) (f1 f2 f3 : Int) (w' : World) : Prop := PD F w' g S mb ml ∧ w'.cell? ⟨H, 0, none⟩ = some (.int .i64 f1) ∧ w'.cell? ⟨H, 1, none⟩ = some (.int .i64 f2) ∧ w'.cell? ⟨H, 2, none⟩ = some (.int .i64 f3)
theorem has_fit {F : Nat → Prop} {w : World} {g : Nat} {S : St} {mb ml : Option Nat} (h : PD F w g S mb ml) (f : Fl) (i : Int) : ((Go.Proofs.Ytdjhlpllffakpaa.has S.l f i).getD (List.replicate 32 0)).length = 32 ∧ ∀ z ∈ (Go.Proofs.Ytdjhlpllffakpaa.has S.l f i).getD (List.replicate 32 0), 0 ≤ z ∧ z ≤ 255 := by
  cases hx : Go.Proofs.Ytdjhlpllffakpaa.has S.l f i with
  | none => exact ⟨by simp, fun z hz => by rw [List.eq_of_mem_replicate hz]; decide⟩
  | some bs => exact ⟨(h.ok _ (has_mem hx)).2.2, h.fit _ (has_mem hx)⟩
theorem AtR.on {F : Nat → Prop} {g : Nat} {S : St} {mb ml : Option Nat} {H : Nat} {f1 f2 f3 : Int} {w' w'' : World} (h : AtR F g S mb ml H f1 f2 f3 w') (hb : Below w'.heap.size w' w'') : AtR F g S mb ml H f1 f2 f3 w'' :=
  have k : ∀ m v, w'.cell? ⟨H, m, none⟩ = some v → w''.cell? ⟨H, m, none⟩ = some v := fun m _ hv => (hb.cell (p := ⟨H, m, none⟩) (World.block_lt_of_cell? w' _ hv)).trans hv
  ⟨h.1.inside hb, k _ _ h.2.1, k _ _ h.2.2.1, k _ _ h.2.2.2⟩

set_option maxHeartbeats 1000000 in
set_option maxRecDepth 20000 in
theorem read_c (F : Nat → Prop) (g : Nat) (S : St) (f1 f2 f3 i : Int) (hf : I64F (f1, f2, f3)) (hi : I64 i) (w : World) (hD : PDisk F w g S) :
    Calls Try.prog 41 #[.pointer (some ⟨g, 0, none⟩), .agg #[.int .i64 f1, .int .i64 f2, .int .i64 f3], .int .i64 i] w (PReadSay (S.read (f1, f2, f3) i) w) := by
  obtain ⟨mb, ml, hD⟩ := hD
  obtain ⟨Post, hPost⟩ : ∃ Post, Post = PReadSay (S.read (f1, f2, f3) i) w := ⟨_, rfl⟩
  rw [← hPost]
  have HP : Hid (Post = PReadSay (S.read (f1, f2, f3) i) w) := hPost
  clear hPost
  obtain ⟨hb0, x0, x1, x2⟩ := box_new w f1 f2 f3
  have HD0 := hD.inside hb0
  have HB0 : Hid (Below w.heap.size w (w.alloc (.cells #[.int .i64 f1, .int .i64 f2, .int .i64 f3] 29))) := hb0
  have HD : Hid (PD F (w.alloc (.cells #[.int .i64 f1, .int .i64 f2, .int .i64 f3] 29)) g S mb ml) := HD0
  have hs0 : w.heap.size < (w.alloc (.cells #[.int .i64 f1, .int .i64 f2, .int .i64 f3] 29)).heap.size := by rw [World.size_alloc]; omega
  clear hb0 HD0 hD
  go_enter Try.func41, Try.ntmps41
  go_upto_region 1 with fail
  generalize w.alloc (.cells #[.int .i64 f1, .int .i64 f2, .int .i64 f3] 29) = w0 at *
  go_wp2_with fail
  refine (known_c i w0).mono ?_
  rintro e w1 ⟨rfl, rfl⟩
  by_cases hk : 0 ≤ i ∧ i < 4096
  · rw [decide_eq_true hk]
    go_wp2_with fail
    refine (on_c F g S w1 ⟨mb, ml, HD.out⟩).mono ?_
    rintro e w2 ⟨rfl, rfl⟩
    by_cases ho : S.out = true
    · have R : Post (.returned (.tuple #[.slice none 0 0, .int .i64 8])) w2 := by rw [HP.out, read_down _ _ _ hk ho]; exact ⟨HB0.out, Or.inl ⟨rfl, rfl⟩⟩
      rw [ho]
      clear HP HD HB0
      go_wp2
      exact R
    · have ho' : S.out = false := by simpa using ho
      rw [ho']
      have HR : Hid (S.read (f1, f2, f3) i = (0, (Go.Proofs.Ytdjhlpllffakpaa.has S.l (f1, f2, f3) i).getD (List.replicate 32 0))) := read_ok _ _ _ hk ho'
      go_wp2
      refine region_L (AtR F g S mb ml w.heap.size f1 f2 f3) 9 (by kernel_rfl) ?_
      have HD2 : Hid (PD F w2.drew g S mb ml) := HD.out.keep (fun _ _ => rfl)
      have HB2 : Hid (Below w.heap.size w w2.drew) := HB0.out.drew
      have z0 : w2.drew.cell? ⟨w.heap.size, 0, none⟩ = some (.int .i64 f1) := x0
      have z1 : w2.drew.cell? ⟨w.heap.size, 1, none⟩ = some (.int .i64 f2) := x1
      have z2 : w2.drew.cell? ⟨w.heap.size, 2, none⟩ = some (.int .i64 f3) := x2
      clear HD HB0 x0 x1 x2
      generalize w2.drew = v1 at *
      obtain ⟨hlen, hfit⟩ := has_fit HD2.out (f1, f2, f3) i
      have hHeld : (AtR F g S mb ml w.heap.size f1 f2 f3) _ := ⟨HD2.out, z0, z1, z2⟩
      have hne : Nonempty (Sub (AtR F g S mb ml w.heap.size f1 f2 f3)) := ⟨⟨_, hHeld⟩⟩
      have k0 : ∀ s : Sub (AtR F g S mb ml w.heap.size f1 f2 f3), s.w.cell? ⟨g, 0, none⟩ = some (.map mb) := fun s => s.ok.1.cells.1
      have k1 : ∀ s : Sub (AtR F g S mb ml w.heap.size f1 f2 f3), s.w.cell? ⟨w.heap.size, 0, none⟩ = some (.int .i64 f1) := fun s => s.ok.2.1
      have k2 : ∀ s : Sub (AtR F g S mb ml w.heap.size f1 f2 f3), s.w.cell? ⟨w.heap.size, 1, none⟩ = some (.int .i64 f2) := fun s => s.ok.2.2.1
      have k3 : ∀ s : Sub (AtR F g S mb ml w.heap.size f1 f2 f3), s.w.cell? ⟨w.heap.size, 2, none⟩ = some (.int .i64 f3) := fun s => s.ok.2.2.2
      have k4 : ∀ s : Sub (AtR F g S mb ml w.heap.size f1 f2 f3), (Instr.lookup 63 (.map mb) (.agg #[.int .i64 f1, .int .i64 f2, .int .i64 f3, .int .i64 i]) false).run Try.prog s.w = .ok (.agg (vals ((Go.Proofs.Ytdjhlpllffakpaa.has S.l (f1, f2, f3) i).getD (List.replicate 32 0)))) s.w := fun s => s.ok.1.lookBlk (f1, f2, f3) i hf hi
      have HL : Hid (((Go.Proofs.Ytdjhlpllffakpaa.has S.l (f1, f2, f3) i).getD (List.replicate 32 0)).length = 32 ∧ ∀ z ∈ ((Go.Proofs.Ytdjhlpllffakpaa.has S.l (f1, f2, f3) i).getD (List.replicate 32 0)), 0 ≤ z ∧ z ≤ 255) := ⟨hlen, hfit⟩
      clear hlen hfit
      generalize ((Go.Proofs.Ytdjhlpllffakpaa.has S.l (f1, f2, f3) i).getD (List.replicate 32 0)) = L at *
      refine take_L (i := 0) rfl (by kernel_rfl) (by kernel_rfl) (by kernel_rfl) (by kernel_rfl) (fun _ _ _ _ h => h) (by exact hHeld) (fun K hK => ?_)
      go_simp
      refine hK _ ?_
      clear hK K
      refine take_L (i := 1) rfl (by kernel_rfl) (by kernel_rfl) (by kernel_rfl) (by kernel_rfl) (fun _ _ _ _ h => h) (by exact hHeld) (fun K hK => ?_)
      go_simp
      refine hK _ ?_
      clear hK K
      refine take_L (i := 2) rfl (by kernel_rfl) (by kernel_rfl) (by kernel_rfl) (by kernel_rfl) (fun _ _ _ _ h => h) (by exact hHeld) (fun K hK => ?_)
      go_simp
      refine hK _ ?_
      clear hK K
      refine take_L (i := 3) rfl (by kernel_rfl) (by kernel_rfl) (by kernel_rfl) (by kernel_rfl) (fun _ _ _ _ h => h) (by exact hHeld) (fun K hK => ?_)
      go_simp
      refine hK _ ?_
      clear hK K
      refine take_L (i := 4) rfl (by kernel_rfl) (by kernel_rfl) (by kernel_rfl) (by kernel_rfl) (fun _ _ _ _ h => h) (by exact hHeld) (fun K hK => ?_)
      go_simp
      refine hK _ ?_
      clear hK K
      refine take_L (i := 5) rfl (by kernel_rfl) (by kernel_rfl) (by kernel_rfl) (by kernel_rfl) (fun _ _ _ _ h => h) (by exact hHeld) (fun K hK => ?_)
      go_simp
      refine hK _ ?_
      clear hK K
      refine take_L (i := 6) rfl (by kernel_rfl) (by kernel_rfl) (by kernel_rfl) (by kernel_rfl) (fun _ _ _ _ h => h) (by exact hHeld) (fun K hK => ?_)
      go_simp
      refine hK _ ?_
      clear hK K
      refine take_L (i := 7) rfl (by kernel_rfl) (by kernel_rfl) (by kernel_rfl) (by kernel_rfl) (fun _ _ _ _ h => h) (by exact hHeld) (fun K hK => ?_)
      go_simp
      refine hK _ ?_
      clear hK K
      refine one_L (i := 8) (by kernel_rfl) rfl (fun K hK => ?_)
      go_simp
      rw [show v1.alloc (.cells #[.int .u8 0, .int .u8 0, .int .u8 0, .int .u8 0, .int .u8 0, .int .u8 0, .int .u8 0, .int .u8 0, .int .u8 0, .int .u8 0, .int .u8 0, .int .u8 0, .int .u8 0, .int .u8 0, .int .u8 0, .int .u8 0, .int .u8 0, .int .u8 0, .int .u8 0, .int .u8 0, .int .u8 0, .int .u8 0, .int .u8 0, .int .u8 0, .int .u8 0, .int .u8 0, .int .u8 0, .int .u8 0, .int .u8 0, .int .u8 0, .int .u8 0, .int .u8 0] 88) = v1.alloc (.cells (vals (List.replicate 32 0)) 88) from rfl]
      have hb3 : Below v1.heap.size v1 (v1.alloc (.cells (vals (List.replicate 32 0)) 88)) := (Below.refl _ _).alloc (Nat.le_refl _) _
      have hN : Blk (v1.alloc (.cells (vals (List.replicate 32 0)) 88)) v1.heap.size 88 (List.replicate 32 0) := Blk.new _ _ _
      replace hHeld : (AtR F g S mb ml w.heap.size f1 f2 f3) _ := hHeld.on hb3
      refine hK.out _ _ (fun _ => hHeld) ?_
      clear hK K
      refine one_L (i := 9) (by kernel_rfl) rfl (fun K hK => ?_)
      refine step_plain rfl ?_
      refine wp_store_row 88 (.tmp 8) (.tmp 22) rfl v1.heap.size (vals L) rfl rfl 88 _ hN (by rw [size88, vals_size, HL.out.1]) (by rw [vals_size, vals_size, HL.out.1]; rfl) (ones L) ?_
      refine hK.out _ _ (fun h => absurd rfl h) ?_
      clear hK K
      refine done_L (by kernel_rfl) ?_ _
      have hB3 : Blk ((v1.alloc (.cells (vals (List.replicate 32 0)) 88)).setRow v1.heap.size (vals L)) v1.heap.size 88 L := setRow_heap _ _ _ _ 88 (0, 0) hN
      have HW3 : Hid (Below w.heap.size w ((v1.alloc (.cells (vals (List.replicate 32 0)) 88)).setRow v1.heap.size (vals L))) := by
        have h1 : Below w.heap.size w (v1.alloc (.cells (vals (List.replicate 32 0)) 88)) := HB2.out.trans (hb3.mono HB2.out.size)
        exact ⟨h1.os, h1.tape, h1.output, by rw [setRow_size]; exact h1.size, fun k hk => by rw [setRow_other _ _ _ _ (by have := HB2.out.size; omega)]; exact h1.block k hk⟩
      have hs1 := HB2.out.size
      have HB3 : Hid (Blk ((v1.alloc (.cells (vals (List.replicate 32 0)) 88)).setRow v1.heap.size (vals L)) v1.heap.size 88 L) := hB3
      clear hB3 hb3 hN hHeld HD2 HB2 z0 z1 z2 k0 k1 k2 k3 k4 hne
      generalize (v1.alloc (.cells (vals (List.replicate 32 0)) 88)).setRow v1.heap.size (vals L) = v2 at *
      have R : Post (.returned (.tuple #[.slice (some ⟨v1.heap.size, 0, none⟩) 32 32, .int .i64 0])) v2 := by rw [HP.out, HR.out]; exact ⟨HW3.out, Or.inr ⟨_, hs1, rfl, HB3.out, HL.out.1, HL.out.2⟩⟩
      clear HP HR HW3 HB3 HL
      go_wp2
      simpa using R
  · have R : Post (.returned (.tuple #[.slice none 0 0, .int .i64 1])) w1 := by rw [HP.out, read_arg _ _ _ hk]; exact ⟨HB0.out, Or.inl ⟨rfl, rfl⟩⟩
    rw [decide_eq_false hk]
    clear HP HD HB0
    go_wp2
    exact R
end Go.Proofs.Ytdjhlpllffakpaa
