/-
  What a file tells: a header read back; blank files; other files. A disk and regions on the way.
-/
import Derived.Test.YtdjhlpllffakpaaGplan
set_option maxRecDepth 20000
namespace Go.Proofs.Ytdjhlpllffakpaa
open Go.RowKit

/-! ### the header read back -/
theorem hdr_at : ∀ (sp : List Sp) (dat : List (List Int)) (k : Nat) (h : k < sp.length) (h' : k < dat.length) (j : Nat), j < 4 → (hdrR sp dat).getD (4 * k + j) 0 = (hdr1 sp[k] dat[k]).getD j 0
  | [], _, _, h, _, _, _ => absurd h (Nat.not_lt_zero _)
  | _ :: _, [], _, _, h', _, _ => absurd h' (Nat.not_lt_zero _)
  | s :: sp, b :: dat, 0, _, _, j, hj => by
    have e : hdrR (s :: sp) (b :: dat) = hdr1 s b ++ hdrR sp dat := by simp [hdrR]
    rw [e, Nat.mul_zero, Nat.zero_add, List.getD_eq_getElem?_getD, List.getD_eq_getElem?_getD, List.getElem?_append_left (by simp [hdr1]; omega)]
    rfl
  | s :: sp, b :: dat, k + 1, h, h', j, hj => by
    have e : hdrR (s :: sp) (b :: dat) = hdr1 s b ++ hdrR sp dat := by simp [hdrR]
    have ih := hdr_at sp dat k (by simpa using h) (by simpa using h') j hj
    rw [e, show 4 * (k + 1) + j = 4 + (4 * k + j) by omega, List.getD_eq_getElem?_getD, List.getElem?_append_right (by simp [hdr1]), ← List.getD_eq_getElem?_getD]
    rw [show 4 + (4 * k + j) - (hdr1 s b).length = 4 * k + j by simp [hdr1]]
    simpa using ih
theorem ent_hdr {sp : List Sp} {dat : List (List Int)} (H : GoodR sp dat) : entS (hdrR sp dat) = (sp.zip dat).map fun p => (p.1, p.2.length) := by
  have hn := H.n
  have hm := H.m
  apply List.ext_getElem
  · simp [entS, hn, hm]
  · intro k h1 h2
    have hk : k < 16 := by simpa [entS] using h1
    have h0 := hdr_at sp dat k (by omega) (by omega) 0 (by omega)
    have h1 := hdr_at sp dat k (by omega) (by omega) 1 (by omega)
    have h2 := hdr_at sp dat k (by omega) (by omega) 2 (by omega)
    have h3 := hdr_at sp dat k (by omega) (by omega) 3 (by omega)
    simp only [Nat.add_zero] at h0
    simp only [entS, List.getElem_map, List.getElem_range, List.getElem_zip, h0, h1, h2, h3]
    simp only [hdr1, List.getD_cons_zero, List.getD_cons_succ, Int.toNat_natCast]
    refine Prod.ext rfl ?_
    simp only
    omega
theorem open_on {L : List Bk} {ρ : Rho} (H : GoodR ρ.sp ρ.dat) (hO : OnD L ρ) : HdOk (headS L ρ.x ρ.z) ∧ rhoS L ρ.x ρ.z = ρ := by
  have e : headS L ρ.x ρ.z = (ρ.sp.zip ρ.dat).map fun p => (p.1, p.2.length) := by
    unfold headS
    rw [← ent_hdr H, ← hO.head]
    rfl
  have hn := H.n
  have hm := H.m
  have e1 : (headS L ρ.x ρ.z).map (·.1) = ρ.sp := by
    rw [e, List.map_map]
    apply List.ext_getElem
    · simp; omega
    · intro k h1 h2
      simp
  refine ⟨⟨fun h hh => ?_, fun i => by rw [e1]; exact H.once i⟩, ?_⟩
  · rw [e, List.mem_map] at hh
    obtain ⟨p, hp, rfl⟩ := hh
    obtain ⟨k, hk, rfl⟩ := List.mem_iff_getElem.1 hp
    rw [List.length_zip] at hk
    rw [List.getElem_zip]
    rcases H.ok k (by omega) (by omega) with h | h
    · left
      simp only
      rw [h.1, h.2]
      rfl
    · exact .inr h
  · unfold rhoS
    rw [e1]
    have e2 : (headS L ρ.x ρ.z).map (fun h => (blks L (2, ρ.x, ρ.z) h.1.1 h.1.2).take h.2) = ρ.dat := by
      rw [e, List.map_map]
      apply List.ext_getElem
      · simp; omega
      · intro k h1 h2
        have hk : k < ρ.dat.length := h2
        have := hO.dat k (by omega) hk
        simpa [Rho.file] using this
    rw [e2]
/-! ### blank files, other files -/
def Blank (L : List Bk) (f : Fl) : Prop := ∀ i, blk L f i = List.replicate 32 0
theorem blank_nil (f : Fl) : Blank [] f := fun _ => rfl
theorem blks_congr {L L' : List Bk} {f : Fl} (h : ∀ i, blk L f i = blk L' f i) (i n : Nat) : blks L f i n = blks L' f i n := by
  unfold blks
  congr 1
  exact List.map_congr_left (fun j _ => h j)
theorem blank_blks {L : List Bk} {f : Fl} (h : Blank L f) (i n : Nat) : blks L f i n = blks [] f i n := blks_congr (fun j => (h j).trans (blank_nil f j).symm) i n
def sp0 : List Sp := List.replicate 16 (0, 0)
def dat0 : List (List Int) := List.replicate 16 []
theorem head_blank {L : List Bk} {x z : Int} (h : Blank L (2, x, z)) : headS L x z = List.replicate 16 ((0, 0), 0) := by
  unfold headS
  rw [blank_blks h]
  rfl
theorem rho_blank {L : List Bk} {x z : Int} (h : Blank L (2, x, z)) : rhoS L x z = ⟨x, z, sp0, dat0⟩ := by
  unfold rhoS
  rw [head_blank h]
  rfl
theorem ok_blank {L : List Bk} {x z : Int} (h : Blank L (2, x, z)) : HdOk (headS L x z) := by
  rw [head_blank h]
  refine ⟨fun e he => ?_, fun i => ?_⟩
  · rw [List.eq_of_mem_replicate he]
    exact .inl rfl
  · rw [cnt_zero (fun s hs => ?_)]
    · omega
    · rw [List.map_replicate] at hs
      rw [List.eq_of_mem_replicate hs]
      simp only
      omega
theorem on_blank {L : List Bk} {x z : Int} (h : Blank L (2, x, z)) : OnD L ⟨x, z, sp0, dat0⟩ := by
  refine ⟨?_, fun k h1 h2 => ?_⟩
  · show blks L (2, x, z) 0 2 = _
    rw [blank_blks h]
    rfl
  · simp only [dat0, List.getElem_replicate]
    rfl
theorem blk_put_other {l : List Bk} {f g : Fl} (h : f ≠ g) (i : Int) (b : List Int) (j : Nat) : blk (put l f i b) g j = blk l g j := by
  unfold blk
  rw [has_put_other l f g i j b (fun e => h e.1)]
theorem blk_putAll_other {f g : Fl} (h : f ≠ g) : ∀ (ps : List Pb) (l : List Bk) (j : Nat), blk (putAll f l ps) g j = blk l g j
  | [], _, _ => rfl
  | p :: r, l, j => by
    show blk (putAll f (put l f (p.i : Int) p.b) r) g j = _
    rw [blk_putAll_other h r, blk_put_other h]
theorem OnD.other {L L' : List Bk} {ρ : Rho} (h : OnD L ρ) (he : ∀ i, blk L' ρ.file i = blk L ρ.file i) : OnD L' ρ :=
  ⟨(blks_congr he 0 2).trans h.head, fun k h1 h2 => by rw [blks_congr he]; exact h.dat k h1 h2⟩
theorem Good.putAll {f : Fl} : ∀ (ps : List Pb) {l : List Bk}, Good l → PsOk ps → Good (putAll f l ps)
  | [], _, h, _ => h
  | p :: r, l, h, ho => by
    have h1 := ho.ok p (by simp)
    refine Good.putAll r (h.put (f := f) (i := (p.i : Int)) (bs := p.b) ⟨by omega, by omega, h1.2.1⟩) ⟨fun q hq => ho.ok q (List.mem_cons_of_mem _ hq), ?_⟩
    have := ho.once
    rw [List.map_cons, List.nodup_cons] at this
    exact this.2
theorem nodup_len : ∀ (n : Nat) (l : List Nat), l.Nodup → (∀ x ∈ l, x < n) → l.length ≤ n
  | 0, l, _, h => by
    cases l with
    | nil => exact Nat.le_refl _
    | cons a r => exact absurd (h a (by simp)) (Nat.not_lt_zero _)
  | n + 1, l, hn, h => by
    by_cases hm : n ∈ l
    · obtain ⟨s, t, rfl⟩ := List.append_of_mem hm
      rw [List.nodup_append, List.nodup_cons] at hn
      have h1 : (s ++ t).Nodup := List.nodup_append.2 ⟨hn.1, hn.2.1.2, fun a ha b hb => hn.2.2 a ha b (List.mem_cons_of_mem _ hb)⟩
      have := nodup_len n (s ++ t) h1 (fun x hx => by
        have hx' : x ∈ s ++ n :: t := by
          rcases List.mem_append.1 hx with h | h
          · exact List.mem_append_left _ h
          · exact List.mem_append_right _ (List.mem_cons_of_mem _ h)
        have h2 := h x hx'
        have h3 : x ≠ n := by
          rintro rfl
          rcases List.mem_append.1 hx with h | h
          · exact hn.2.2 x h x (by simp) rfl
          · exact hn.2.1.1 h
        omega)
      simp only [List.length_append, List.length_cons] at this ⊢
      omega
    · have := nodup_len n l hn (fun x hx => by
        have h2 := h x hx
        have h3 : x ≠ n := fun e => hm (e ▸ hx)
        omega)
      omega
theorem PsOk.len {ps : List Pb} (h : PsOk ps) : ps.length ≤ 40 := by
  have := nodup_len 40 (ps.map (·.i)) h.once (fun x hx => by
    obtain ⟨p, hp, rfl⟩ := List.mem_map.1 hx
    exact (h.ok p hp).1)
  simpa using this
/-! ### a disk and regions on the way -/
structure Dn (w0 w : World) (Fd : Nat → Prop) (d : Nat) (S : St) : Prop where
  disk : PDisk Fd w d S
  lt : ∀ k, Fd k → k < w.heap.size
  lo : ∀ k, Fd k → w0.heap.size ≤ k
  out : S.out = false
  armed : S.armed = false
  bel : Below w0.heap.size w0 w
theorem Dn.on {w0 w w' : World} {Fd : Nat → Prop} {d : Nat} {S : St} (h : Dn w0 w Fd d S) (hb : Below w.heap.size w w') : Dn w0 w' Fd d S :=
  ⟨h.disk.keep (fun k hk => hb.block k (h.lt k hk)), fun k hk => Nat.lt_of_lt_of_le (h.lt k hk) hb.size, h.lo, h.out, h.armed, h.bel.trans (hb.mono h.bel.size)⟩
theorem Dn.good {w0 w : World} {Fd : Nat → Prop} {d : Nat} {S : St} (h : Dn w0 w Fd d S) : Good S.l := by
  obtain ⟨mb, ml, hd⟩ := h.disk
  exact hd.ok
theorem Dn.drewN {w0 w : World} {Fd : Nat → Prop} {d : Nat} {S : St} (h : Dn w0 w Fd d S) (n : Nat) : Dn w0 (w.drewN n) Fd d S :=
  ⟨h.disk.keep (fun _ _ => rfl), h.lt, h.lo, h.out, h.armed, ⟨h.bel.os, h.bel.tape, h.bel.output, h.bel.size, h.bel.block⟩⟩
/-- A region apart from the disk. -/
structure Rn (J : RSpec) (Fd : Nat → Prop) (w : World) (g : Nat) (ρ : Rho) : Prop where
  it : ∃ F, J.RG F w g ρ ∧ ∀ k, F k → ¬ Fd k
theorem Rn.on {J : RSpec} {Fd : Nat → Prop} {w w' : World} {g : Nat} {ρ : Rho} (h : Rn J Fd w g ρ) (hb : Below w.heap.size w w') : Rn J Fd w' g ρ := by
  obtain ⟨F, h1, h2⟩ := h.it
  exact ⟨F, J.rg_keep h1 (fun k hk => hb.block k (J.rg_lt h1 k hk)) hb.size, h2⟩
theorem Rn.stp {J : RSpec} {Fd Fd' : Nat → Prop} {w w' : World} {g : Nat} {ρ : Rho} (h : Rn J Fd w g ρ) (hs : Stp Fd w Fd' w') : Rn J Fd' w' g ρ := by
  obtain ⟨F, h1, h2⟩ := h.it
  exact ⟨F, J.rg_keep h1 (fun k hk => (hs.block k (J.rg_lt h1 k hk) (h2 k hk)).1) hs.size, fun k hk => (hs.block k (J.rg_lt h1 k hk) (h2 k hk)).2⟩
theorem Rn.good {J : RSpec} {Fd : Nat → Prop} {w : World} {g : Nat} {ρ : Rho} (h : Rn J Fd w g ρ) : GoodR ρ.sp ρ.dat ∧ I64 ρ.x ∧ I64 ρ.z := by
  obtain ⟨F, h1, _⟩ := h.it
  exact J.rg_good h1
/-- Blocks of a plan apart from the disk. -/
structure Bn (Fd : Nat → Prop) (w : World) (a : Option Addr) (f : Fl) (ps : List Pb) : Prop where
  it : ∃ F, PbsF F w a f ps ∧ ∀ k, F k → ¬ Fd k
theorem Bn.on {Fd : Nat → Prop} {w w' : World} {a : Option Addr} {f : Fl} {ps : List Pb} (h : Bn Fd w a f ps) (hb : Below w.heap.size w w') : Bn Fd w' a f ps := by
  obtain ⟨F, h1, h2⟩ := h.it
  exact ⟨F, h1.keep (fun k hk => hb.block k (h1.lt k hk)) hb.size, h2⟩
section
variable (J : RSpec) {w0 w : World} {Fd : Nat → Prop} {d : Nat} {S : St}
theorem dnew (w : World) : Calls Try.prog 12 #[] w fun e w' => ∃ d Fd, e = .returned (.pointer (some ⟨d, 0, none⟩)) ∧ Dn w w' Fd d St.new ∧ Below w.heap.size w w' := by
  refine (new_c w).mono ?_
  rintro e w' ⟨⟨g, F, he, hD, h1, h2⟩, hb⟩
  exact ⟨g, F, he, ⟨hD, h2, h1, rfl, rfl, hb⟩, hb⟩
theorem dopen (H : Dn w0 w Fd d S) (x z : Int) (hx : I64 x) (hz : I64 z) (hk : HdOk (headS S.l x z)) : Calls Try.prog 15 #[.pointer (some ⟨d, 0, none⟩), .int .i64 x, .int .i64 z] w fun e w' =>
    ∃ g, e = .returned (.tuple #[.pointer (some ⟨g, 0, none⟩), .int .i64 0]) ∧ Below w.heap.size w w' ∧ Rn J Fd w' g (rhoS S.l x z) := by
  refine (J.open_ Fd d S x z w hx hz H.disk H.lt).mono ?_
  rintro e w' ⟨hb, ⟨h1, _⟩ | ⟨_, h1, _⟩ | ⟨_, _, g, F, he, hG, hF⟩⟩
  · rw [H.out] at h1; cases h1
  · exact absurd hk h1
  · exact ⟨g, he, hb, F, hG, fun k hk hd => by have := hF k hk; have := H.lt k hd; omega⟩
theorem dplan (H : Dn w0 w Fd d S) {g : Nat} {ρ : Rho} (hR : Rn J Fd w g ρ) {a : Option Addr} {n c : Nat} {l : List Cg} (hC : CgsAt w a l) (hl : l.length = n) (hn : n ≤ maxLen) :
    Calls Try.prog 18 #[.pointer (some ⟨g, 0, none⟩), .slice a n c] w fun e w' => Below w.heap.size w w' ∧
      (((planS ρ.dat (l.map Cg.cs)).1 ≠ 0 ∧ ∃ pa pc, e = .returned (.tuple #[.slice pa 0 pc, .pointer none, .int .i64 (planS ρ.dat (l.map Cg.cs)).1])) ∨
       ((planS ρ.dat (l.map Cg.cs)).1 = 0 ∧ ∃ pa pc g' sp' ps, e = .returned (.tuple #[.slice pa ps.length pc, .pointer (some ⟨g', 0, none⟩), .int .i64 0]) ∧
         Rn J Fd w' g' ⟨ρ.x, ρ.z, sp', (planS ρ.dat (l.map Cg.cs)).2⟩ ∧ Bn Fd w' pa ρ.file ps ∧ PsOk ps ∧ ∀ L, Good L → OnD L ρ → OnD (putAll ρ.file L ps) ⟨ρ.x, ρ.z, sp', (planS ρ.dat (l.map Cg.cs)).2⟩)) := by
  obtain ⟨F, hG, hap⟩ := hR.it
  refine (J.plan_ F g ρ a n c l w hG hC hl hn).mono ?_
  rintro e w' ⟨hb, h | ⟨h0, pa, pc, g', F', sp', ps, he, hG', hP, hF, hok, hon⟩⟩
  · exact ⟨hb, .inl h⟩
  · have hap' : ∀ k, F' k → ¬ Fd k := fun k hk hd => (hF k hk).elim (fun h => hap k h hd) (fun h => by have := H.lt k hd; omega)
    exact ⟨hb, .inr ⟨h0, pa, pc, g', sp', ps, he, ⟨F', hG', hap'⟩, ⟨F', hP, hap'⟩, hok, hon⟩⟩
theorem dwrites (H : Dn w0 w Fd d S) {f : Fl} {pa : Option Addr} {pc : Nat} {ps : List Pb} (hf : I64F f) (hw : S.writes + 40 < 1000000) (hP : Bn Fd w pa f ps) (hok : PsOk ps) :
    Calls Try.prog 20 #[.pointer (some ⟨d, 0, none⟩), .agg #[.int .i64 f.1, .int .i64 f.2.1, .int .i64 f.2.2], .slice pa ps.length pc] w fun e w' => e = .returned (.bool true) ∧ ∃ Fd' S', Dn w0 w' Fd' d S' ∧ Stp Fd w Fd' w' ∧ S'.l = putAll f S.l ps ∧ S'.writes ≤ S.writes + 40 := by
  obtain ⟨F, h1, h2⟩ := hP.it
  have hlen := hok.len
  refine (writes_c Fd F d S f pa pc ps w hf H.disk H.lt H.out H.armed (by omega) h1 h2 hok).mono ?_
  rintro e w' ⟨he, Fd', S', h3, h4, h5, h6, h7, h8, h9⟩
  refine ⟨he, Fd', S', ⟨h3, h4, fun k hk => ?_, h7, h8, H.bel.trans (h5.toBelow H.lo H.bel.size)⟩, h5, h6, by omega⟩
  by_cases hk0 : k < w0.heap.size
  · exact absurd hk (h5.block k (Nat.lt_of_lt_of_le hk0 H.bel.size) (fun h => by have := H.lo k h; omega)).2
  · omega
theorem rget {g : Nat} {ρ : Rho} (hR : Rn J Fd w g ρ) (i : Int) (hi : I64 i) : Calls Try.prog 22 #[.pointer (some ⟨g, 0, none⟩), .int .i64 i] w fun e w' => Below w.heap.size w w' ∧ ∃ a c, e = .returned (.slice a (getS ρ i).length c) ∧ Bytes w' a (getS ρ i).length (getS ρ i) := by
  obtain ⟨F, hG, _⟩ := hR.it
  exact J.get_ F g ρ i w hi hG
end
end Go.Proofs.Ytdjhlpllffakpaa
