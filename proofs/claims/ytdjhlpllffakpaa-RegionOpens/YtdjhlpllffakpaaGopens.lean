/-
  RegionOpens, walked over any region that keeps what is asked.
-/
import Derived.Test.YtdjhlpllffakpaaGhead
set_option maxRecDepth 20000
namespace Go.Proofs.Ytdjhlpllffakpaa
open Go.RowKit

theorem size5 (w : World) : (sizeOf 5).run Try.prog w = .ok 1 w := by kernel_rfl
/-- A part of a row of bytes. -/
theorem cut_part (g n f m : Nat) (hf : f < n) (hfm : f + m ≤ n) (w : World) : (Instr.sliceAt 25 (.slice (some ⟨g, 0, none⟩) n n) (some (.int .i64 (f : Int))) (some (.int .i64 ((f + m : Nat) : Int))) none).run Try.prog w = .ok (.slice (some ⟨g, f, none⟩) m (n - f)) w := by
  rw [run_sliceAt_slice w 25 _ _ _ _ (by kernel_rfl), run_slice_lh w 25 (some ⟨g, 0, none⟩) n n (by kernel_rfl) .i64 .i64 (f : Int) ((f + m : Nat) : Int) (by omega) (by omega) (by omega), show Try.prog.elem 25 = 5 by kernel_rfl, size5, Result.andThen_ok]
  unfold sliced
  rw [if_neg (by omega), show (((f + m : Nat) : Int)).toNat - (f : Int).toNat = m by omega, Int.toNat_natCast, Nat.mul_one]
  show Result.ok (Value.slice (some ((⟨g, 0, none⟩ : Addr).add f)) m (n - f)) w = _
  rw [Addr.add_mid, Nat.zero_add]
theorem row_part {w : World} {g : Nat} {zs : List Int} (h : Row w g zs) (hfit : ∀ z ∈ zs, 0 ≤ z ∧ z ≤ 255) (f m : Nat) (hfm : f + m ≤ zs.length) : Bytes w (some ⟨g, f, none⟩) m ((zs.drop f).take m) := by
  refine ⟨by rw [List.length_take, List.length_drop]; omega, .inr ⟨g, f, rfl, fun k hk => ?_⟩, fun z hz => hfit z (List.mem_of_mem_drop (List.mem_of_mem_take hz))⟩
  rw [List.length_take, List.length_drop] at hk
  rw [h.cell (f + k) (by omega)]
  simp
/-- copy of bytes into a part of a row: bytes they are, as many as before. -/
theorem wpList_copy_part {w : World} {ops : Array Oper} {rest : List Oper} {o : Oper} {a : Act} {Q : Exit → Act → World → Prop} (hgd : o.guard = none) (d s : Operand)
    (ho : o.op = .call { callee := .builtin .copy, args := #[d, s], argTypes := #[25, 25] }) (g off dLen dCap : Nat) (sp : Option Addr) (sLen sCap : Nat) (hd : a.eval d = .slice (some ⟨g, off, none⟩) dLen dCap) (hs : a.eval s = .slice sp sLen sCap)
    (zs xs : List Int) (hR : Row w g zs) (hfz : ∀ z ∈ zs, 0 ≤ z ∧ z ≤ 255) (hz : off + dLen ≤ zs.length) (hX : Bytes w sp sLen xs) (B : Nat) (w0 : World) (hb : Below B w0 w) (hBg : B ≤ g)
    (h : ∀ n zs' w', Hid (Row w' g zs') → Hid (∀ z ∈ zs', 0 ≤ z ∧ z ≤ 255) → zs'.length = zs.length → Below B w0 w' → wpList Try.prog ops Q rest (a.put o.dst (goInt n)) w') : wpList Try.prog ops Q (o :: rest) a w := by
  have hn := hX.n
  obtain ⟨i, hi, hz0, hz1, hz2⟩ := info_parts Try.info5
  refine wpList_copy_splice hgd d s 25 25 ho 5 Try.underlying25 (by rw [hi]; simp [hz1]) _ sp dLen dCap sLen sCap hd hs g off (zs.map (Value.int .u8)) 5 hR ((xs.take dLen).map (Value.int .u8)) (by rw [List.length_map, List.length_take, hn]; exact Nat.min_comm ..) ?_ (by simp only [List.length_map, List.length_take]; omega) (ints_oneCell _ _) B w0 hb hBg ?_
  · intro hp
    rcases hX.cells with e | ⟨b, off2, e, hc⟩
    · simp [e] at hp
    · refine ⟨rfl, _, e, fun j v hj => ?_⟩
      obtain ⟨hj', hv⟩ := List.getElem?_eq_some_iff.1 hj
      rw [List.length_map, List.length_take] at hj'
      rw [Addr.add_mid, hc j (by omega), ← hv]
      simp
  · intro w' hw hbel
    refine h _ (splice zs off (xs.take dLen)) w' ?_ ?_ ?_ hbel
    · show Row _ _ _
      unfold Row
      rw [hw.out]
      simp [splice]
    · intro z hz
      unfold splice at hz
      rcases List.mem_append.1 hz with h1 | h1
      · exact hfz z (List.mem_of_mem_take h1)
      · rcases List.mem_append.1 h1 with h1 | h1
        · exact hX.fit z (List.mem_of_mem_take h1)
        · exact hfz z (List.mem_of_mem_drop h1)
    · exact length_splice _ _ _ (by rw [List.length_take]; omega)
/-! ### plain -/
def chunk (B0 : List Int) (i : Nat) : List Int := (B0.drop (32 * i)).take 32
theorem chunks : ∀ (n : Nat) (B0 : List Int) (i : Nat), ((List.range' i n).map (chunk B0)).flatten = (B0.drop (32 * i)).take (32 * n)
  | 0, _, _ => by simp
  | n + 1, B0, i => by
    rw [List.range'_succ, List.map_cons, List.flatten_cons, chunks n B0 (i + 1)]
    unfold chunk
    rw [show 32 * (n + 1) = 32 + 32 * n by omega, List.take_add, List.drop_drop, show 32 * (i + 1) = 32 * i + 32 by omega]
theorem blks_chunks {l : List Bk} {f : Fl} {B0 : List Int} (h : ∀ k, k < 40 → blk l f k = chunk B0 k) (i n : Nat) (hin : i + n ≤ 40) : blks l f i n = (B0.drop (32 * i)).take (32 * n) := by
  unfold blks
  rw [← chunks n B0 i]
  congr 1
  refine List.map_congr_left (fun k hk => ?_)
  rw [List.mem_range'_1] at hk
  exact h k (by omega)
theorem blk_put_same (l : List Bk) (f : Fl) (i : Nat) (b : List Int) : blk (put l f (i : Int) b) f i = b := by
  unfold blk
  rw [has_put_same]
  rfl
theorem blk_put_ne (l : List Bk) (f : Fl) (i j : Nat) (b : List Int) (h : i ≠ j) : blk (put l f (i : Int) b) f j = blk l f j := by
  unfold blk
  rw [has_put_other l f f i j b (fun e => h (by omega))]
/-! ### the slots as parts of the bytes -/
def slE (bb : Nat) (B0 : List Int) (h : Sp × Nat) : Sl := ⟨some ⟨bb, 32 * h.1.1, none⟩, h.2, 1280 - 32 * h.1.1, (B0.drop (32 * h.1.1)).take h.2⟩
def slV (s : Sl) : Value := .slice s.a s.n s.c
structure Og (w8 : World) (bb : Nat) (B0 : List Int) (es : List (Sp × Nat)) (i : Nat) (sa : Option Addr) (sc : Nat) (wr : World) : Prop where
  row : wr.ownsRow w8.heap.size 25 1 (.slice sa i sc) i ((es.take i).map fun h => slV (slE bb B0 h))
  bel : Below w8.heap.size w8 wr
theorem slice_one (w : World) (v : Value) : ∀ j u, [v][j]? = some u → (w.alloc (.cells #[v] 25)).cell? (Addr.add ⟨w.heap.size, 0, none⟩ j) = some u := by
  intro j u hj
  have e := cell_of_row (w.alloc (.cells #[v] 25)) w.heap.size j _ 25 (0, 0) (heap_alloc_new w _)
  match j with
  | 0 => simpa [Addr.add] using e.trans hj
  | j + 1 => simp at hj
theorem sls_of {w w8 : World} {bb : Nat} {B0 : List Int} {es : List (Sp × Nat)} {sa : Option Addr} {sc n : Nat} (h : w.ownsRow w8.heap.size 25 1 (.slice sa n sc) n (es.map fun h => slV (slE bb B0 h))) (hn : es.length = n) (hB : Row w bb B0) (hf : ∀ z ∈ B0, 0 ≤ z ∧ z ≤ 255) (hl : B0.length = 1280) (hin : ∀ h ∈ es, 32 * h.1.1 + h.2 ≤ 1280) : SlsAt w sa (es.map (slE bb B0)) := by
  intro k hk
  rw [List.length_map] at hk
  rcases h.2 with ⟨_, h0⟩ | ⟨g, cap, cur, hv, _, _⟩
  · omega
  · simp only [Value.slice.injEq] at hv
    refine ⟨g, 0, hv.1, ?_⟩
    have h' : w.ownsRow w8.heap.size 25 1 (.slice (some ⟨g, 0, none⟩) n sc) n (es.map fun h => slV (slE bb B0 h)) := by rw [← hv.1]; exact h
    have hc := World.ownsRow.cellAt h' k (by omega)
    have hi := hin es[k] (List.getElem_mem _)
    rw [List.getElem_map]
    refine ⟨?_, row_part hB hf _ _ (by rw [hl]; exact hi), by show es[k].2 ≤ _; omega⟩
    rw [Nat.zero_add, hc]
    simp [hk, slV]
theorem ent_in {es : List (Sp × Nat)} (h : HdOk es) : ∀ e ∈ es, 32 * e.1.1 + e.2 ≤ 1280 ∧ e.1.1 < 40 ∧ e.2 ≤ 32 * e.1.2 ∧ e.1.1 + e.1.2 ≤ 40 := by
  intro e he
  rcases h.ok e he with rfl | ⟨h1, h2, h3, h4⟩
  · simp only; omega
  · unfold needS at h2; omega
theorem dat_opens {l : List Bk} {x z : Int} {B0 : List Int} (hb : ∀ k, k < 40 → blk l (2, x, z) k = chunk B0 k) (hd : headS l x z = entS (B0.take 64)) (hk : HdOk (entS (B0.take 64))) (bb : Nat) : (rhoS l x z).dat = ((entS (B0.take 64)).map (slE bb B0)).map (·.b) := by
  show (headS l x z).map (fun h => (blks l (2, x, z) h.1.1 h.1.2).take h.2) = _
  rw [hd, List.map_map]
  refine List.map_congr_left (fun e he => ?_)
  obtain ⟨h1, h2, h3, h4⟩ := ent_in hk e he
  show (blks l (2, x, z) e.1.1 e.1.2).take e.2 = (B0.drop (32 * e.1.1)).take e.2
  rw [blks_chunks hb _ _ h4, List.take_take, Nat.min_eq_left h3]
/-- Behind i writes. -/
structure Ow (w1 w6 : World) (d bb fb : Nat) (x z : Int) (B0 : List Int) (i : Nat) (wr : World) : Prop where
  it : ∃ Fj Sj, Dn w1 wr Fj d Sj ∧ ¬ Fj bb ∧ ¬ Fj fb ∧ Sj.writes = i ∧ ∀ k, k < i → blk Sj.l (2, x, z) k = chunk B0 k
  keep : Kp11 (fun k => k = bb ∨ k = fb) w6 wr

set_option maxHeartbeats 4000000 in
theorem regionOpens_walk (J : RSpec) (ha : Option Addr) (hn hc : Nat) (hs : List Int) (ra : Option Addr) (rn rc : Nat) (rs : List Int) (x z : Int) (w : World) (hh : Bytes w ha hn hs) (hr : Bytes w ra rn rs) (hx : I64 x) (hz : I64 z) :
    Calls Try.prog 4 #[.slice ha hn hc, .slice ra rn rc, .int .i64 x, .int .i64 z] w fun e w' => e = .returned (.bool true) ∧ Below w.heap.size w w' := by
  obtain ⟨Post, hPost⟩ : ∃ Post : Ending → World → Prop, Post = fun e w' => e = .returned (.bool true) ∧ Below w.heap.size w w' := ⟨_, rfl⟩
  rw [← hPost]
  have HP : Hid (∀ w', Below w.heap.size w w' → Post (.returned (.bool true)) w') := fun w' h => by rw [hPost]; exact ⟨rfl, h⟩
  clear hPost
  have HHd : Hid (Bytes w ha hn hs) := hh
  have HRs : Hid (Bytes w ra rn rs) := hr
  clear hh hr
  go_enter Try.func4, Try.ntmps4
  go_wp2_with fail
  refine (awake_c J w).mono ?_
  rintro _ w1 ⟨rfl, hb1⟩
  go_wp2_with fail
  refine (dnew w1).mono ?_
  rintro _ w2 ⟨d, Fd, rfl, hD2, hb2⟩
  have hbw2 : Below w.heap.size w w2 := hb1.trans (hb2.mono hb1.size)
  have Hb1 : Hid (Below w.heap.size w w1) := hb1
  clear hb1 hb2
  have hcut := cut_part w2.heap.size 1280 64 1216 (by omega) (by omega)
  have hcut64 : ∀ w', (Instr.sliceAt 25 (.slice (some ⟨w2.heap.size, 0, none⟩) 1280 1280) (some (.int .i64 64)) none none).run Try.prog w' = .ok (.slice (some ⟨w2.heap.size, 64, none⟩) 1216 1216) w' := fun w' => by
    rw [run_sliceAt_slice w' 25 _ _ _ _ (by kernel_rfl), run_slice_l w' 25 (some ⟨w2.heap.size, 0, none⟩) 1280 1280 (by kernel_rfl) .i64 64 (by omega) (by omega), show Try.prog.elem 25 = 5 by kernel_rfl, size5, Result.andThen_ok]
    rfl
  have hfst : True := trivial
  go_wp2_with (first
    | (at_make; refine wpList_make_bytes _ rfl _ _ rfl 1280 1280 rfl rfl rfl (by omega) ?_; intro w3 HM3 hb3; have HZ3 : Hid (∀ z ∈ List.replicate 1280 (0 : Int), 0 ≤ z ∧ z ≤ 255) := zeros_fit 1280)
    | (refine wpList_copy_part rfl (.tmp 35) (.tmp 36) rfl w2.heap.size 0 1280 1280 ha hn hc rfl rfl _ hs HM3.out HZ3.out (by simp) (HHd.out.on (hbw2.trans (hb3.mono hbw2.size))) w2.heap.size w2 hb3 (Nat.le_refl _) ?_; clear hfst; intro n4 zs4 w4 HM4 HZ4 hl4 hb4)
    | (refine wpList_copy_part rfl (.tmp 42) (.tmp 43) rfl w2.heap.size 64 1216 1216 ra rn rc rfl rfl _ rs HM4.out HZ4.out (by rw [hl4]; simp) (HRs.out.on (hbw2.trans (hb4.mono hbw2.size))) w2.heap.size w2 hb4 (Nat.le_refl _) ?_; intro n5 B0 w5 HM5 HZ5 hl5 hb5))
  have hl0 : B0.length = 1280 := by rw [hl5, hl4]; simp
  obtain ⟨bb, hbb⟩ : ∃ bb, bb = w2.heap.size := ⟨_, rfl⟩
  obtain ⟨fb, hfb⟩ : ∃ fb, fb = w5.heap.size := ⟨_, rfl⟩
  have hlt5 : bb < w5.heap.size := by rw [hbb]; exact HM5.out.lt
  have hb6 : Below w5.heap.size w5 (w5.alloc (.cells #[.int .i64 2, .int .i64 x, .int .i64 z] 29)) := (Below.refl _ _).alloc (Nat.le_refl _) _
  have Hrow : Hid (Row (w5.alloc (.cells #[.int .i64 2, .int .i64 x, .int .i64 z] 29)) bb B0) := by rw [hbb]; exact HM5.out.below hb6 HM5.out.lt
  have Hfile : Hid ((w5.alloc (.cells #[.int .i64 2, .int .i64 x, .int .i64 z] 29)).heap[fb]? = some (.cells #[.int .i64 2, .int .i64 x, .int .i64 z] 29 (0, 0))) := by rw [hfb]; exact heap_alloc_new w5 _
  have hD6 := (hD2.on hb5).on hb6
  have hnb : ¬ Fd bb := fun h => by have := hD2.lt bb h; omega
  have hnf : ¬ Fd fb := fun h => by have := hD2.lt fb h; omega
  have HW0 : Hid (Ow w1 (w5.alloc (.cells #[.int .i64 2, .int .i64 x, .int .i64 z] 29)) d bb fb x z B0 0 (w5.alloc (.cells #[.int .i64 2, .int .i64 x, .int .i64 z] 29))) := ⟨⟨Fd, St.new, hD6, hnb, hnf, rfl, fun k hk => by omega⟩, fun _ _ => rfl⟩
  have Hneq : Hid (bb ≠ fb ∧ bb < (w5.alloc (.cells #[.int .i64 2, .int .i64 x, .int .i64 z] 29)).heap.size ∧ fb < (w5.alloc (.cells #[.int .i64 2, .int .i64 x, .int .i64 z] 29)).heap.size) := ⟨by omega, by simp; omega, by simp; omega⟩
  have HZ0 : Hid (∀ z ∈ B0, 0 ≤ z ∧ z ≤ 255) := HZ5.out
  have Hl0 : Hid (B0.length = 1280) := hl0
  have Hf : Hid (I64F (2, x, z)) := ⟨by unfold I64; simp only; omega, hx, hz⟩
  rw [← hbb, ← hfb]
  clear hcut hcut64 HM3 hb3 HZ3 HM4 HZ4 hl4 hb4 HM5 HZ5 hl5 hb5 hD2 hbw2 hb6 hD6 hnb hnf hlt5 hl0 hbb hfb HHd HRs
  generalize w5.alloc (.cells #[.int .i64 2, .int .i64 x, .int .i64 z] 29) = w6 at *
  go_loopw [13] (fun v wr => ∃ (i : Nat), i ≤ 40 ∧ v = .int .i64 (i : Int) ∧ Hid (Ow w1 w6 d bb fb x z B0 i wr)) (fun v _ => 40 - (intOf v).toNat)
  case atStart => exact ⟨0, Nat.zero_le _, rfl, HW0.out⟩
  case round =>
    clear HW0
    obtain ⟨i, hi, rfl, HW⟩ := hrel
    obtain ⟨Fj, Sj, hD, hnb, hnf, hwr, hbk⟩ := HW.out.it
    have HK : Hid (Kp11 (fun k => k = bb ∨ k = fb) w6 wr) := HW.out.keep
    have HD : Hid (Dn w1 wr Fj d Sj) := hD
    by_cases hlt : i < 40
    · have hlt' : (i : Int) < 40 := by omega
      obtain ⟨A, hA⟩ : ∃ A, A = i * 32 := ⟨_, rfl⟩
      obtain ⟨C, hC⟩ : ∃ C, C = A + 32 := ⟨_, rfl⟩
      obtain ⟨i1, hi1⟩ : ∃ i1, i1 = i + 1 := ⟨_, rfl⟩
      have wA : IntKind.i64.wrap ((i : Int) * 32) = (A : Int) := by rw [IntKind.wrap_i64]; omega
      have w1' : IntKind.i64.wrap ((i : Int) + 1) = (i1 : Int) := by rw [IntKind.wrap_i64]; omega
      have wC : IntKind.i64.wrap ((i1 : Int) * 32) = (C : Int) := by rw [IntKind.wrap_i64]; omega
      have hsl : ∀ w', (Instr.sliceAt 25 (.slice (some ⟨bb, 0, none⟩) 1280 1280) (some (.int .i64 (A : Int))) (some (.int .i64 (C : Int))) none).run Try.prog w' = .ok (.slice (some ⟨bb, A, none⟩) 32 (1280 - A)) w' := fun w' => by rw [hC]; exact cut_part bb 1280 A 32 (by omega) (by omega) w'
      have Hby : Hid (∀ w', Kp11 (fun k => k = bb ∨ k = fb) w6 w' → Bytes w' (some ⟨bb, A, none⟩) 32 (chunk B0 i)) := fun w' hk => by
        have hr : Row w' bb B0 := (hk bb (.inl rfl)).trans Hrow.out
        have := row_part hr HZ0.out A 32 (by rw [Hl0.out]; omega)
        unfold chunk
        rw [show 32 * i = A by omega]
        exact this
      have hclen : (chunk B0 i).length = 32 := by unfold chunk; rw [List.length_take, List.length_drop, Hl0.out]; omega
      have hzero : (Sj.write (2, x, z) (i : Int) (chunk B0 i)) = (0, Sj.wrote (2, x, z) (i : Int) (chunk B0 i)) := write_ok Sj _ _ _ ⟨by omega, by omega, hclen⟩ hD.out
      have Hzero : Hid ((Sj.write (2, x, z) (i : Int) (chunk B0 i)).1 = 0) := by show _ = _; rw [hzero]
      have Hw : Hid (Sj.writes < 1000000) := by show _ < _; omega
      have Hap : Hid (∀ k, (fun k => k = bb ∨ k = fb) k → ¬ Fj k) := fun k hk => by
        rcases hk with rfl | rfl
        · exact hnb
        · exact hnf
      have Hlt2 : Hid (∀ w', Kp11 (fun k => k = bb ∨ k = fb) w6 w' → ∀ k, (fun k => k = bb ∨ k = fb) k → k < w'.heap.size) := fun w' hk k hk2 => by
        rcases hk2 with rfl | rfl
        · exact (Array.getElem?_eq_some_iff.1 ((hk _ (.inl rfl)).trans Hrow.out)).1
        · exact (Array.getElem?_eq_some_iff.1 ((hk _ (.inr rfl)).trans Hfile.out)).1
      have Hstep : Hid (∀ va vb, Dn w1 va Fj d Sj → Kp11 (fun k => k = bb ∨ k = fb) w6 va → PDisk (fun k => Fj k ∨ (va.heap.size ≤ k ∧ k < vb.heap.size)) vb d (Sj.write (2, x, z) (i : Int) (chunk B0 i)).2 → Chg Fj va vb → Ow w1 w6 d bb fb x z B0 (i + 1) vb) := by
        intro va vb hDa hKa hDb hCb
        have hwo := write_on hDa.out hDa.armed (2, x, z) (i : Int) (chunk B0 i)
        have hst := Stp.chg hCb (F' := fun k => Fj k ∨ (va.heap.size ≤ k ∧ k < vb.heap.size)) (fun k hk => hk.imp id (fun h => h.1))
        have hlt3 := Hlt2.out va hKa
        refine ⟨⟨_, _, ⟨hDb, fun k hk => hk.elim (fun h => Nat.lt_of_lt_of_le (hDa.lt k h) hCb.size) (fun h => h.2), fun k hk => hk.elim (fun h => hDa.lo k h) (fun h => Nat.le_trans hDa.bel.size h.1), hwo.1, hwo.2.1, hDa.bel.trans (hst.toBelow hDa.lo hDa.bel.size)⟩, (hst.block bb (hlt3 bb (.inl rfl)) hnb).2, (hst.block fb (hlt3 fb (.inr rfl)) hnf).2, ?_, fun k hk => ?_⟩, hKa.step hCb Hap.out hlt3⟩
        · rw [hwo.2.2.2, if_pos ⟨by omega, by omega, hclen⟩, hwr]
          omega
        · rw [hzero]
          show blk (put Sj.l (2, x, z) (i : Int) (chunk B0 i)) (2, x, z) k = _
          by_cases e : i = k
          · subst e
            exact blk_put_same _ _ _ _
          · rw [blk_put_ne _ _ _ _ _ e]
            exact hbk k (by omega)
      have Hi1 : Hid (i1 = i + 1) := hi1
      clear hA hC hi1 hD hnb hnf hwr hbk hclen hzero HW HP
      go_wp2_with fail
      refine region_L (Kp11 (fun k => k = bb ∨ k = fb) w6) 11 (by kernel_rfl) ?_
      have HDa : Hid (Dn w1 wr.drew Fj d Sj) := HD.out.drewN 1
      have HKp : Hid (Kp11 (fun k => k = bb ∨ k = fb) w6 wr.drew) := fun k hk => HK.out k hk
      generalize wr.drew = va at *
      have hHeld : (Kp11 (fun k => k = bb ∨ k = fb) w6) _ := HKp.out
      have hne : Nonempty (Sub (Kp11 (fun k => k = bb ∨ k = fb) w6)) := ⟨⟨_, hHeld⟩⟩
      have k0 : ∀ s : Sub (Kp11 (fun k => k = bb ∨ k = fb) w6), s.w.cell? ⟨fb, 0, none⟩ = some (.int .i64 2) := fun s => (cell_of_row s.w _ 0 _ 29 (0, 0) ((s.ok fb (.inr rfl)).trans Hfile.out)).trans rfl
      have k1 : ∀ s : Sub (Kp11 (fun k => k = bb ∨ k = fb) w6), s.w.cell? ⟨fb, 1, none⟩ = some (.int .i64 x) := fun s => (cell_of_row s.w _ 1 _ 29 (0, 0) ((s.ok fb (.inr rfl)).trans Hfile.out)).trans rfl
      have k2 : ∀ s : Sub (Kp11 (fun k => k = bb ∨ k = fb) w6), s.w.cell? ⟨fb, 2, none⟩ = some (.int .i64 z) := fun s => (cell_of_row s.w _ 2 _ 29 (0, 0) ((s.ok fb (.inr rfl)).trans Hfile.out)).trans rfl
      refine take_N (i := 0) rfl (by kernel_rfl) (by kernel_rfl) (by kernel_rfl) (by rfl) (fun _ _ _ _ h => h) (by exact hHeld) (fun K hK => ?_)
      go_simp
      refine hK _ ?_
      clear hK K
      refine take_N (i := 1) rfl (by kernel_rfl) (by kernel_rfl) (by kernel_rfl) (by rfl) (fun _ _ _ _ h => h) (by exact hHeld) (fun K hK => ?_)
      go_simp
      refine hK _ ?_
      clear hK K
      refine take_N (i := 2) rfl (by kernel_rfl) (by kernel_rfl) (by kernel_rfl) (by rfl) (fun _ _ _ _ h => h) (by exact hHeld) (fun K hK => ?_)
      go_simp
      refine hK _ ?_
      clear hK K
      refine take_N (i := 3) rfl (by kernel_rfl) (by kernel_rfl) (by kernel_rfl) (by rfl) (fun _ _ _ _ h => h) (by exact hHeld) (fun K hK => ?_)
      go_simp
      refine hK _ ?_
      clear hK K
      refine take_N (i := 4) rfl (by kernel_rfl) (by kernel_rfl) (by kernel_rfl) (by rfl) (fun _ _ _ _ h => h) (by exact hHeld) (fun K hK => ?_)
      go_simp
      refine hK _ ?_
      clear hK K
      refine take_N (i := 5) rfl (by kernel_rfl) (by kernel_rfl) (by kernel_rfl) (by rfl) (fun _ _ _ _ h => h) (by exact hHeld) (fun K hK => ?_)
      go_simp
      refine hK _ ?_
      clear hK K
      refine take_N (i := 6) rfl (by kernel_rfl) (by kernel_rfl) (by kernel_rfl) (by rfl) (fun _ _ _ _ h => h) (by exact hHeld) (fun K hK => ?_)
      go_simp
      refine hK _ ?_
      clear hK K
      refine take_N (i := 7) rfl (by kernel_rfl) (by kernel_rfl) (by kernel_rfl) (by rfl) (fun _ _ _ _ h => h) (by exact hHeld) (fun K hK => ?_)
      go_simp
      refine hK _ ?_
      clear hK K
      refine take_N (i := 8) rfl (by kernel_rfl) (by kernel_rfl) (by kernel_rfl) (by rfl) (fun _ _ _ _ h => h) (by exact hHeld) (fun K hK => ?_)
      go_simp
      refine hK _ ?_
      clear hK K
      refine take_N (i := 9) rfl (by kernel_rfl) (by kernel_rfl) (by kernel_rfl) (by rfl) (fun _ _ _ _ h => h) (by exact hHeld) (fun K hK => ?_)
      go_simp
      refine hK _ ?_
      clear hK K
      refine one_L (i := 10) (by kernel_rfl) rfl (fun K hK => ?_)
      go_simp
      refine (write_c Fj d Sj 2 x z (i : Int) (some ⟨bb, A, none⟩) 32 (1280 - A) (chunk B0 i) Hf.out va HDa.out.disk HDa.out.lt (Hby.out va hHeld) Hw.out).mono ?_
      rintro _ vb ⟨rfl, hDb, hCb⟩
      have Hnew : Hid (Ow w1 w6 d bb fb x z B0 (i + 1) vb) := Hstep.out va vb HDa.out hHeld hDb hCb
      have ewr : (Sj.write (2, x, z) (i : Int) (chunk B0 i)).1 = 0 := Hzero.out
      rw [ewr]
      clear hDb ewr
      replace hHeld : (Kp11 (fun k => k = bb ∨ k = fb) w6) _ := (Kp11.step hHeld hCb Hap.out (Hlt2.out va hHeld))
      refine hK.out _ _ (fun _ => hHeld) ?_
      clear hK K
      refine done_L (by kernel_rfl) ?_ _
      clear hHeld hne k0 k1 k2 HDa HKp
      go_wp2
      go_roundw
      case rel => have e := Hi1.out; exact ⟨i + 1, by omega, by rw [e], Hnew.out⟩
      case measure => have e := Hi1.out; simp [intOf]; omega
    · obtain rfl : i = 40 := by omega
      have Hbk : Hid (∀ k, k < 40 → blk Sj.l (2, x, z) k = chunk B0 k) := hbk
      have hhead : headS Sj.l x z = entS (B0.take 64) := by
        show entS (blks Sj.l (2, x, z) 0 2) = _
        rw [blks_chunks hbk 0 2 (by omega)]
        rfl
      have Hhead : Hid (headS Sj.l x z = entS (B0.take 64)) := hhead
      have hRow : Row wr bb B0 := (HK.out bb (.inl rfl)).trans Hrow.out
      have HBy : Hid (Bytes wr (some ⟨bb, 0, none⟩) 64 (B0.take 64)) := row_part hRow HZ0.out 0 64 (by rw [Hl0.out]; omega)
      have HRw : Hid (Row wr bb B0) := hRow
      have Hnb : Hid (¬ Fj bb) := hnb
      have hcut64 : ∀ w', (Instr.sliceAt 25 (.slice (some ⟨bb, 0, none⟩) 1280 1280) none (some (.int .i64 64)) none).run Try.prog w' = .ok (.slice (some ⟨bb, 0, none⟩) 64 1280) w' := fun w' => by
        rw [run_sliceAt_slice w' 25 _ _ _ _ (by kernel_rfl), run_slice_h w' 25 (some ⟨bb, 0, none⟩) 1280 1280 (by kernel_rfl) .i64 64 (by omega) (by omega), show Try.prog.elem 25 = 5 by kernel_rfl, size5, Result.andThen_ok]
        rfl
      clear hD hnb hnf hwr hbk HW HK hhead hRow hlt Hneq Hfile
      go_wp2_with fail
      refine (rheader_c (some ⟨bb, 0, none⟩) 1280 (B0.take 64) wr HBy.out).mono ?_
      rintro _ w7 ⟨hb7, ⟨hno, rfl⟩ | ⟨hok, la, lc, na, nc, rfl, hLs, hNs⟩⟩
      · have HD7 : Hid (Dn w1 w7 Fj d Sj) := HD.out.on hb7
        have Hno : Hid (¬ HdOk (headS Sj.l x z)) := by show ¬ _; rw [Hhead.out]; exact hno
        clear hb7 hno HD HBy HRw hcut64
        go_wp2_with fail
        refine (J.open_ Fj d Sj x z w7 hx hz HD7.out.disk HD7.out.lt).mono ?_
        rintro e w8 ⟨hb8, ⟨h1, _⟩ | ⟨_, _, rfl⟩ | ⟨_, h1, _⟩⟩
        · rw [HD7.out.out] at h1; cases h1
        · have R := HP.out w8 (Hb1.out.trans ((HD7.out.on hb8).bel.mono Hb1.out.size))
          clear HP HD7 hb8 Hno
          go_wp2
          exact R
        · exact absurd h1 Hno.out
      · have hok' : HdOk (headS Sj.l x z) := by rw [Hhead.out]; exact hok
        have HD7 : Hid (Dn w1 w7 Fj d Sj) := HD.out.on hb7
        have Hok : Hid (HdOk (entS (B0.take 64))) := hok
        have HRw7 : Hid (Row w7 bb B0) := HRw.out.below hb7 HRw.out.lt
        have HLs : Hid (OwnSp w7 wr.heap.size la lc ((entS (B0.take 64)).map (·.1))) := hLs
        have HNs : Hid (OwnI w7 wr.heap.size na nc ((entS (B0.take 64)).map fun h => (h.2 : Int))) := hNs
        clear hb7 hok HD HBy HRw hcut64 hLs hNs
        go_wp2_with fail
        refine (dopen J HD7.out x z hx hz hok').mono ?_
        rintro _ w8 ⟨g, rfl, hb8, hR8⟩
        have HR8 : Hid (Rn J Fj w8 g (rhoS Sj.l x z)) := hR8
        have HD8 : Hid (Dn w1 w8 Fj d Sj) := HD7.out.on hb8
        have HRw8 : Hid (Row w8 bb B0) := HRw7.out.below hb8 HRw7.out.lt
        have hlen : (entS (B0.take 64)).length = 16 := entS_len _
        obtain ⟨lb, lo, hla, hq1⟩ := (HLs.out.at).at 0 (by rw [List.length_map, hlen]; omega)
        obtain ⟨nb, hna, hq2⟩ := HNs.out.at 0 (by rw [List.length_map, hlen]; omega)
        clear hq1 hq2
        subst hla hna
        have HLc : Hid (∀ wr', Below w8.heap.size w8 wr' → ∀ k (h : k < (entS (B0.take 64)).length), wr'.cell? ⟨lb, lo + k * 2, none⟩ = some (.int .i64 ((entS (B0.take 64))[k].1.1 : Int)) ∧ wr'.cell? ⟨nb, k, none⟩ = some (.int .i64 ((entS (B0.take 64))[k].2 : Int))) := fun wr' hb k hk => by
          obtain ⟨b, off, e, h1, _⟩ := (HLs.out.at).at k (by rw [List.length_map]; exact hk)
          cases e
          obtain ⟨b, e, h2⟩ := HNs.out.at k (by rw [List.length_map]; exact hk)
          cases e
          rw [List.getElem_map] at h1 h2
          exact ⟨cell_below (cell_below h1 hb8) hb, cell_below (cell_below h2 hb8) hb⟩
        have HO0 : Hid (Og w8 bb B0 (entS (B0.take 64)) 0 none 0 w8) := ⟨World.ownsRow_nil _ _ _ _, Below.refl _ _⟩
        clear HD7 hok' HRw7 HLs HNs hb8 hR8 hlen
        obtain ⟨es, hes⟩ : ∃ es, es = entS (B0.take 64) := ⟨_, rfl⟩
        have Hes : Hid (es = entS (B0.take 64)) := hes
        rw [← hes] at HLc HO0 Hok
        have Hlen : Hid (es.length = 16) := by show _ = _; rw [hes]; exact entS_len _
        clear hes
        go_wp2_with fail
        go_loopw [19, 20] (fun sv iv wr' => ∃ (i : Nat) (sa : Option Addr) (sc : Nat), i ≤ 16 ∧ sv = .slice sa i sc ∧ iv = .int .i64 (i : Int) ∧ Hid (Og w8 bb B0 es i sa sc wr')) (fun _ iv _ => 16 - (intOf iv).toNat)
        case atStart => exact ⟨0, none, 0, by omega, rfl, rfl, HO0.out⟩
        case round =>
          clear HO0
          obtain ⟨i, sa, sc, hi, rfl, rfl, HO⟩ := hrel
          by_cases hlt : i < 16
          · have hlt' : (i : Int) < 16 := by omega
            have hil : i < es.length := by rw [Hlen.out]; exact hlt
            obtain ⟨hc0, hc1⟩ := HLc.out _ HO.out.bel i hil
            obtain ⟨h1, h2, h3, h4⟩ := ent_in Hok.out es[i] (List.getElem_mem _)
            have Htake : Hid (es.take (i + 1) = es.take i ++ [es[i]]) := by show _ = _; exact List.take_succ_eq_append_getElem hil
            generalize es[i] = en at *
            obtain ⟨⟨F, M⟩, N⟩ := en
            simp only at h1 h2 h3 h4 hc0 hc1
            obtain ⟨A, hA⟩ : ∃ A, A = 32 * F := ⟨_, rfl⟩
            obtain ⟨C, hC⟩ : ∃ C, C = A + N := ⟨_, rfl⟩
            have wA : IntKind.i64.wrap ((F : Int) * 32) = (A : Int) := by rw [IntKind.wrap_i64]; omega
            have wC : IntKind.i64.wrap ((A : Int) + (N : Int)) = (C : Int) := by rw [IntKind.wrap_i64]; omega
            have hsl : ∀ w', (Instr.sliceAt 25 (.slice (some ⟨bb, 0, none⟩) 1280 1280) (some (.int .i64 (A : Int))) (some (.int .i64 (C : Int))) none).run Try.prog w' = .ok (.slice (some ⟨bb, A, none⟩) N (1280 - A)) w' := fun w' => by rw [hC]; exact cut_part bb 1280 A N (by omega) (by omega) w'
            obtain ⟨i25, hi25, hz0, hz1, hz2⟩ := info_parts info25
            have HRo : Hid (∀ v, (wr.alloc (.cells #[v] 25)).ownsRow w8.heap.size 25 1 (.slice sa i sc) i ((es.take i).map fun h => slV (slE bb B0 h))) := fun v => ownsRow_on HO.out.row ((Below.refl _ _).alloc (Nat.le_refl _) _)
            have HBe : Hid (∀ v, Below w8.heap.size w8 (wr.alloc (.cells #[v] 25))) := fun v => HO.out.bel.alloc HO.out.bel.size _
            have HMk : Hid (∀ a2 c2 w6, w6.ownsRow w8.heap.size 25 1 (.slice a2 (i + 1) c2) (i + 1) ((es.take i).map (fun h => slV (slE bb B0 h)) ++ [.slice (some ⟨bb, A, none⟩) N (1280 - A)]) → (wr.alloc (.cells #[.slice (some ⟨bb, A, none⟩) N (1280 - A)] 25)).grownBy w6 (Value.slice sa i sc).ownBlock → Og w8 bb B0 es (i + 1) a2 c2 w6) := by
              intro a2 c2 w6 h5 g5
              refine ⟨?_, (HBe.out _).grown g5 (HBe.out (.slice (some ⟨bb, A, none⟩) N (1280 - A))).size (fun k hk => (World.ownsRow.lt (HRo.out (.slice (some ⟨bb, A, none⟩) N (1280 - A))) k hk).1)⟩
              rw [Htake.out, List.map_append]
              show w6.ownsRow _ 25 1 _ _ (_ ++ [.slice (some ⟨bb, 32 * F, none⟩) N (1280 - 32 * F)])
              rw [← hA]
              exact h5
            clear hA hC HO Htake h1 h2 h3 h4
            go_wp2_with (at_builtin; refine wpList_append_own _ rfl _ _ 39 rfl w8.heap.size 25 i25 (.slice none 0 0) 1 24 Try.underlying39 hi25 hz0 hz1 hz2 rfl (by decide) _ _ _ rfl (HRo.out _) ⟨wr.heap.size, 0, none⟩ 1 1 [.slice (some ⟨bb, A, none⟩) N (1280 - A)] rfl rfl (slice_one wr _) (by simp [Value.oneCell']) (by unfold maxLen; omega) (by omega) (HBe.out _).size ?_; intro v2 w6 hown2 hgrow2 _; obtain ⟨sa2, sc2, rfl⟩ := slice_of (by omega) hown2; have HJ : Hid (Og w8 bb B0 es (i + 1) sa2 sc2 w6) := HMk.out sa2 sc2 w6 hown2 hgrow2; clear hown2 hgrow2)
            go_roundw
            case rel => exact ⟨i + 1, sa2, sc2, by omega, rfl, by go_num, HJ.out⟩
            case measure => simp [intOf]; omega
          · obtain rfl : i = 16 := by omega
            have HD9 : Hid (Dn w1 wr Fj d Sj) := HD8.out.on HO.out.bel
            have HR9 : Hid (Rn J Fj wr g (rhoS Sj.l x z)) := HR8.out.on HO.out.bel
            have HRw9 : Hid (Row wr bb B0) := HRw8.out.below HO.out.bel HRw8.out.lt
            have hFd : Fj d := by obtain ⟨mb, ml, hd⟩ := HD9.out.disk; exact hd.inF
            clear hlt HLc
            go_wp2_with fail
            refine (cut_c Fj d Sj 0 (by omega) wr HD9.out.disk).mono ?_
            rintro _ w10 ⟨rfl, hD10, hO10⟩
            have hlt10 : ∀ k, Fj k → k < w10.heap.size := fun k hk => by rw [hO10.size]; exact HD9.out.lt k hk
            have HB10 : Hid (Below w1.heap.size w1 w10) := HD9.out.bel.trans (hO10.below (HD9.out.lo d hFd))
            have hRw10 : Row w10 bb B0 := (hO10.block bb (fun e => Hnb.out (e ▸ hFd))).trans HRw9.out
            have hrow10 : w10.ownsRow w8.heap.size 25 1 (.slice sa 16 sc) 16 (es.map fun h => slV (slE bb B0 h)) := by
              have h := HO.out.row
              rw [List.take_of_length_le (by rw [Hlen.out]; omega)] at h
              refine ownsRow_same h (fun b eb => hO10.block b (fun e => ?_))
              obtain ⟨h1, _⟩ := row_blk h b (by rw [eb]; rfl)
              have := HD8.out.lt d hFd
              omega
            have HS10 : Hid (SlsAt w10 sa (es.map (slE bb B0))) := sls_of hrow10 Hlen.out hRw10 HZ0.out Hl0.out (fun e he => (ent_in Hok.out e he).1)
            obtain ⟨F, hG9, hF9⟩ := HR9.out.it
            have hG10 : J.RG F w10 g (rhoS Sj.l x z) := J.rg_keep hG9 (fun k hk => hO10.block k (fun e => hF9 k hk (e ▸ hFd))) (Nat.le_of_eq hO10.size.symm)
            have HG10 : Hid (J.RG F w10 g (rhoS Sj.l x z)) := hG10
            have Hdat : Hid ((rhoS Sj.l x z).dat = (es.map (slE bb B0)).map (·.b)) := by
              have e := Hes.out
              have ho := Hok.out
              rw [e] at ho
              show _ = _
              rw [e]
              exact dat_opens Hbk.out Hhead.out ho bb
            have HD10 : Hid (PDisk Fj w10 d (Sj.cut 0)) := hD10
            have Hlt10 : Hid (∀ k, Fj k → k < w10.heap.size) := hlt10
            clear hD10 hO10 hlt10 hRw10 hrow10 hG9 hF9 hG10 HO HD9 HR9 HRw9 HD8 HR8 HRw8 hFd
            go_wp2_with fail
            refine (J.open_ Fj d (Sj.cut 0) x z w10 hx hz HD10.out Hlt10.out).mono ?_
            have hout : (Sj.cut 0).out = true := by simp [St.cut]
            rintro e w11 ⟨hb11, ⟨_, rfl⟩ | ⟨h1, _⟩ | ⟨h1, _⟩⟩
            case inr.inl => rw [hout] at h1; cases h1
            case inr.inr => rw [hout] at h1; cases h1
            have HG11 : Hid (J.RG F w11 g (rhoS Sj.l x z)) := J.rg_keep HG10.out (fun k hk => hb11.block k (J.rg_lt HG10.out k hk)) hb11.size
            have HS11 : Hid (SlsAt w11 sa (es.map (slE bb B0))) := HS10.out.on hb11
            have HB11 : Hid (Below w1.heap.size w1 w11) := HB10.out.trans (hb11.mono HB10.out.size)
            clear hb11 hout HG10 HS10 HB10 HD10 Hlt10
            go_wp2_with fail
            refine (tells_c J F g (rhoS Sj.l x z) sa sc (es.map (slE bb B0)) w11 HG11.out HS11.out (by rw [List.length_map]; exact Hlen.out) Hdat.out).mono ?_
            rintro _ w12 ⟨rfl, hb12⟩
            have hB12 := HB11.out.trans (hb12.mono HB11.out.size)
            have R := HP.out w12 (Hb1.out.trans (hB12.mono Hb1.out.size))
            clear HP HG11 HS11 HB11 hb12 hB12 Hdat
            go_wp2
            exact R
end Go.Proofs.Ytdjhlpllffakpaa
