/-
  The landed field: where a cell is; the fifth chunk's cells.
-/
import Derived.Test.YtjeapaojbkicmabDoorKd
import Derived.Test.YtjeapaojbkicmabDoorLhch
import Derived.Test.YtjeapaojbkicmabDoorGn8
import Derived.Test.YtjeapaojbkicmabDoorCFroms
import Derived.Test.YtjeapaojbkicmabDoorLPad
import Derived.Laws.CopyOwn
import Derived.Deep.DeepCutAuto
set_option maxRecDepth 20000
namespace Go.Proofs.YtjeapaojbkicmabDoor
open C G Go.RowKit L Go.Shelf

theorem place_c (x y z : Int) (p : Nat) (hx : -20 ≤ x ∧ x ≤ 40) (hy : 0 ≤ y ∧ y ≤ 127) (hz : -20 ≤ z ∧ z ≤ 40) (hp : (1 + y) * 2500 + (17 + z) * 50 + 17 + x = (p : Int)) (w : World) :
    Calls Tryd.prog 26 #[.agg #[.int .i64 x, .int .i64 y, .int .i64 z]] w fun e w' => e = .returned (.int .i64 (p : Int)) ∧ Below w.heap.size w w' := by
  have HB : Hid (Below w.heap.size w (w.alloc (.cells #[.int .i64 x, .int .i64 y, .int .i64 z] 62))) := (Below.refl _ _).alloc (Nat.le_refl _) _
  obtain ⟨x0, x1⟩ := hx
  obtain ⟨y0, y1⟩ := hy
  obtain ⟨z0, z1⟩ := hz
  have Hp : Hid ((1 + y) * 2500 + (17 + z) * 50 + 17 + x = (p : Int)) := hp
  clear hp
  go_enter Tryd.func26, Tryd.ntmps26
  go_wp2
  go_ret
  exact ⟨C.ret_int (by have := Hp.out; omega), HB.out⟩
/-- Cells laid into a row. -/
def spl (cs src : List Int) (off : Nat) : List Int := cs.take off ++ (src ++ cs.drop (off + src.length))
theorem spl_len {cs src : List Int} {off : Nat} (h : off + src.length ≤ cs.length) : (spl cs src off).length = cs.length := by
  unfold spl
  rw [List.length_append, List.length_append, List.length_take, List.length_drop]
  omega
theorem spl_at {cs src : List Int} {off : Nat} (h : off + src.length ≤ cs.length) (k : Nat) : (spl cs src off).getD k 0 = if off ≤ k ∧ k < off + src.length then src.getD (k - off) 0 else cs.getD k 0 := by
  unfold spl
  have ht : (cs.take off).length = off := by rw [List.length_take]; omega
  rw [List.getD_eq_getElem?_getD]
  by_cases h1 : k < off
  · rw [List.getElem?_append_left (by omega), List.getElem?_take, if_pos h1, if_neg (by omega), List.getD_eq_getElem?_getD]
  · rw [List.getElem?_append_right (by omega), ht]
    by_cases h2 : k < off + src.length
    · rw [List.getElem?_append_left (by omega), if_pos (by omega), List.getD_eq_getElem?_getD]
    · rw [List.getElem?_append_right (by omega), List.getElem?_drop, if_neg (by omega), List.getD_eq_getElem?_getD]
      congr 2
      omega
theorem spl_vals (cs src : List Int) (off : Nat) : (splice (vals cs).toList off (src.map (Value.int .u8))).toArray = vals (spl cs src off) := by
  unfold splice vals spl
  simp [List.map_append, List.map_take, List.map_drop]
/-- Sixteen cells of a row. -/
def part16 (cs : List Int) (off : Nat) : List Int := (List.range 16).map fun j => cs.getD (off + j) 0
theorem part16_len (cs : List Int) (off : Nat) : (part16 cs off).length = 16 := by simp [part16]
theorem part16_at (cs : List Int) (off j : Nat) (h : j < 16) : (part16 cs off).getD j 0 = cs.getD (off + j) 0 := by
  unfold part16
  rw [List.getD_eq_getElem?_getD, List.getElem?_map, List.getElem?_range h]
  rfl
theorem part16_src {w : World} {g off : Nat} {t : TypeId} {cs : List Int} (h : Blk w g t cs) (hl : off + 16 ≤ cs.length) : ∀ j v, ((part16 cs off).map (Value.int .u8))[j]? = some v → w.cell? (Addr.add ⟨g, off, none⟩ j) = some v := fun j v hv => by
  obtain ⟨hj, _⟩ := List.getElem?_eq_some_iff.1 hv
  rw [List.length_map, part16_len] at hj
  rw [List.getElem?_map] at hv
  unfold part16 at hv
  rw [List.getElem?_map, List.getElem?_range hj] at hv
  have e : Value.int .u8 (cs.getD (off + j) 0) = v := by simpa using hv
  rw [← e]
  have e2 : Addr.add ⟨g, off, none⟩ j = ⟨g, off + j, none⟩ := by cases j <;> rfl
  rw [e2]
  exact h.cell (k := off + j) (by omega)
theorem one_u8 (src : List Int) : ∀ v ∈ src.map (Value.int .u8), v.oneCell' = true := fun v hv => by
  obtain ⟨x, _, rfl⟩ := List.mem_map.1 hv
  rfl
/-- The first n sixteens of the fifth chunk's cells. -/
structure OwnG (W0 : World) (g gl : Nat) (ls : List Int) (n : Nat) (W : World) : Prop where
  blk : ∃ cs, Blk W g 5 cs ∧ cs.length = 32768 ∧ ∀ i, i < 16 * n → cs.getD i 0 = ls.getD (pad (mid i)) 0
  fld : Blk W gl 54 ls
  bel : Below W0.heap.size W0 W
theorem pad_mid {n j : Nat} (hj : j < 16) : pad (mid (16 * n + j)) = (1 + n / 16) * 2500 + (17 + n % 16) * 50 + 17 + j := by
  have h1 : (16 * n + j) / 256 = n / 16 := by omega
  have h2 : (16 * n + j) / 16 % 16 = n % 16 := by omega
  have h3 : (16 * n + j) % 16 = j := by omega
  unfold mid
  rw [h1, h2, h3, pad_of (by omega) (by omega)]
  omega
theorem info5 : (Tryd.prog.info? 5).map (·.size) = some 1 := by kernel_rfl
set_option maxRecDepth 1000000 in
set_option maxHeartbeats 4000000 in
theorem own_c (gl : Nat) (ls : List Int) (w : World) (hB : Blk w gl 54 ls) (hl : ls.length = 325000) :
    Calls Tryd.prog 32 #[.pointer (some ⟨gl, 0, none⟩)] w fun e w' => e = .returned (.slice (some ⟨w.heap.size, 0, none⟩) 32768 32768) ∧ OwnG w w.heap.size gl ls 2048 w' := by
  obtain ⟨Post, hPost⟩ : ∃ Post : Ending → World → Prop, Post = fun e w' => e = .returned (.slice (some ⟨w.heap.size, 0, none⟩) 32768 32768) ∧ OwnG w w.heap.size gl ls 2048 w' := ⟨_, rfl⟩
  rw [← hPost]
  have HP : Hid (∀ w', OwnG w w.heap.size gl ls 2048 w' → Post (.returned (.slice (some ⟨w.heap.size, 0, none⟩) 32768 32768)) w') := fun w' h => by rw [hPost]; exact ⟨rfl, h⟩
  clear hPost
  have hmk := make_bytes
  have hbel : Below w.heap.size w (w.alloc (.cells (vals (List.replicate 32768 (0 : Int))) 5)) := (Below.refl _ _).alloc (Nat.le_refl _) _
  obtain ⟨Z, hZe⟩ : ∃ Z, Z = List.replicate 32768 (0 : Int) := ⟨_, rfl⟩
  have hZ : Z.length = 32768 := by rw [hZe, List.length_replicate]
  rw [← hZe] at hmk hbel
  have H0 : Hid (OwnG w w.heap.size gl ls 0 (w.alloc (.cells (vals Z) 5))) := ⟨⟨Z, Blk.new w 5 Z, hZ, fun i hi => (by omega)⟩, hB.below hbel hB.lt, hbel⟩
  have Hl : Hid (ls.length = 325000 ∧ Blk w gl 54 ls) := ⟨hl, hB⟩
  clear hZe hZ hB hl hbel
  obtain ⟨g, hg⟩ : ∃ g, w.heap.size = g := ⟨_, rfl⟩
  have Hg : Hid (w.heap.size = g) := hg
  rw [hg] at H0 HP
  have hmk' := hmk w
  rw [hg] at hmk'
  clear hmk hg
  go_enter Tryd.func32, Tryd.ntmps32
  go_wp2
  go_loopw [4] (fun vx wr => ∃ n : Nat, n ≤ 2048 ∧ vx = .int .i64 ((16 * n : Nat) : Int) ∧ Hid (OwnG w g gl ls n wr)) (fun vx _ => 32768 - (intOf vx).toNat)
  case atStart => exact ⟨0, by omega, rfl, H0⟩
  case round =>
    clear H0 hmk'
    obtain ⟨n, hn, rfl, HS⟩ := hrel
    by_cases hlt : n < 2048
    case neg =>
      obtain rfl : n = 2048 := by omega
      have R := HP.out wr HS.out
      clear HS HP Hl Hg
      go_wp2
      first | exact R | (go_ret; exact R)
    clear HP
    obtain ⟨I, hI⟩ : ∃ I, 16 * n = I := ⟨_, rfl⟩
    have hIb : I + 16 ≤ 32768 := by omega
    have HI : Hid (16 * n = I ∧ n < 2048) := ⟨hI, hlt⟩
    rw [hI]
    have hlt' : (I : Int) < 32768 := by omega
    have wI : IntKind.i64.wrap ((I : Int) + 16) = ((I + 16 : Nat) : Int) := by rw [IntKind.wrap_i64]; omega
    clear hI hlt hn
    have hl' : (I : Int) ≤ (I : Int) + 16 := by omega
    have hl2 : (I : Int) + 16 ≤ 32768 := by omega
    obtain ⟨p, hp⟩ : ∃ p, (1 + n / 16) * 2500 + (17 + n % 16) * 50 + 17 = p := ⟨_, rfl⟩
    have hpb : p + 16 ≤ 325000 := by have := HI.out; omega
    have hpb' : (p : Int) ≤ 325000 := by omega
    have hI3 : ¬ 32768 = I := by omega
    have hp3 : ¬ 325000 = p := by omega
    have Hp : Hid ((1 + n / 16) * 2500 + (17 + n % 16) * 50 + 17 = p) := hp
    clear hp
    go_upto_region 5 with fail
    refine region_L (fun W => Below wr.heap.size wr W) 12 (by kernel_rfl) ?_
    have hHeld : Below wr.heap.size wr wr.drew := (Below.refl _ wr).drew
    obtain ⟨wq, hwq⟩ : ∃ wq, wr.drew = wq := ⟨_, rfl⟩
    rw [hwq] at hHeld ⊢
    clear hwq
    have hne : Nonempty (Sub (fun W => Below wr.heap.size wr W)) := ⟨⟨_, hHeld⟩⟩
    refine take_LC (i := 0) [4] rfl (by kernel_rfl) (by kernel_rfl) (by kernel_rfl) (by kernel_rfl) (by kernel_rfl) (fun _ _ _ _ h => h) (by exact hHeld) (fun K hK => ?_)
    go_simp
    refine hK _ ?_
    clear hK K
    refine take_LC (i := 1) [4] rfl (by kernel_rfl) (by kernel_rfl) (by kernel_rfl) (by kernel_rfl) (by kernel_rfl) (fun _ _ _ _ h => h) (by exact hHeld) (fun K hK => ?_)
    go_simp
    refine hK _ ?_
    clear hK K
    refine take_LC (i := 2) [4, 3] rfl (by kernel_rfl) (by kernel_rfl) (by kernel_rfl) (by kernel_rfl) (by kernel_rfl) (fun _ _ _ _ h => h) (by exact hHeld) (fun K hK => ?_)
    go_simp
    refine hK _ ?_
    clear hK K
    refine take_LC (i := 3) [4] rfl (by kernel_rfl) (by kernel_rfl) (by kernel_rfl) (by kernel_rfl) (by kernel_rfl) (fun _ _ _ _ h => h) (by exact hHeld) (fun K hK => ?_)
    go_simp
    refine hK _ ?_
    clear hK K
    refine take_L (i := 4) rfl (by kernel_rfl) (by kernel_rfl) (by kernel_rfl) (by kernel_rfl) (fun _ _ _ _ h => h) (by exact hHeld) (fun K hK => ?_)
    go_simp
    refine hK _ ?_
    clear hK K
    refine take_LC (i := 5) [11, 6] rfl (by kernel_rfl) (by kernel_rfl) (by kernel_rfl) (by kernel_rfl) (by kernel_rfl) (fun _ _ _ _ h => h) (by exact hHeld) (fun K hK => ?_)
    go_simp
    refine hK _ ?_
    clear hK K
    refine take_LC (i := 6) [11] rfl (by kernel_rfl) (by kernel_rfl) (by kernel_rfl) (by kernel_rfl) (by kernel_rfl) (fun _ _ _ _ h => h) (by exact hHeld) (fun K hK => ?_)
    go_simp
    refine hK _ ?_
    clear hK K
    refine take_LC (i := 7) [10, 9] rfl (by kernel_rfl) (by kernel_rfl) (by kernel_rfl) (by kernel_rfl) (by kernel_rfl) (fun _ _ _ _ h => h) (by exact hHeld) (fun K hK => ?_)
    go_simp
    refine hK _ ?_
    clear hK K
    refine take_LC (i := 8) [10, 9] rfl (by kernel_rfl) (by kernel_rfl) (by kernel_rfl) (by kernel_rfl) (by kernel_rfl) (fun _ _ _ _ h => h) (by exact hHeld) (fun K hK => ?_)
    go_simp
    refine hK _ ?_
    clear hK K
    have e0 : cellX 0 (I : Int) = 0 := by
      have := HI.out
      unfold cellX wrap64
      rw [if_pos (by omega)]
      omega
    have e1 : cellY (I : Int) = ((n / 16 : Nat) : Int) := by
      have := HI.out
      unfold cellY
      rw [if_pos (by omega)]
      omega
    have e2 : cellZ 0 (I : Int) = ((n % 16 : Nat) : Int) := by
      have := HI.out
      unfold cellZ wrap64
      rw [if_pos (by omega)]
      omega
    have hcell := cell_c 0 0 (I : Int) wq
    rw [e0, e1, e2] at hcell
    have hplace := fun (W : World) => place_c 0 ((n / 16 : Nat) : Int) ((n % 16 : Nat) : Int) p (by omega) (by have := HI.out; omega) (by omega) (by have := Hp.out; omega) W
    clear e0 e1 e2
    generalize ((n / 16 : Nat) : Int) = Y at hcell hplace
    generalize ((n % 16 : Nat) : Int) = Z at hcell hplace
    refine one_L (i := 9) (by kernel_rfl) rfl (fun K hK => ?_)
    go_simp
    refine hcell.mono ?_
    clear hcell
    rintro _ w2 ⟨rfl, hb2⟩
    replace hHeld : Below wr.heap.size wr w2 := hHeld.trans (hb2.mono hHeld.size)
    refine hK.out _ _ (fun _ => hHeld) ?_
    clear hK K hb2
    refine one_L (i := 10) (by kernel_rfl) rfl (fun K hK => ?_)
    go_simp
    refine (hplace w2).mono ?_
    clear hplace
    rintro _ w3 ⟨rfl, hb3⟩
    replace hHeld : Below wr.heap.size wr w3 := hHeld.trans (hb3.mono hHeld.size)
    refine hK.out _ _ (fun _ => hHeld) ?_
    clear hK K hb3
    refine take_L (i := 11) rfl (by kernel_rfl) (by kernel_rfl) (by kernel_rfl) (by kernel_rfl) (fun _ _ _ _ h => h) (by exact hHeld) (fun K hK => ?_)
    go_simp
    refine hK _ ?_
    clear hK K
    obtain ⟨⟨cs, hcs, hcl, hct⟩, hfl, hbw⟩ := HS.out
    have hcs3 : Blk w3 g 5 cs := hcs.below hHeld hcs.lt
    have hfl3 : Blk w3 gl 54 ls := hfl.below hHeld hfl.lt
    have hbw3 : Below w.heap.size w w3 := hbw.trans (hHeld.mono hbw.size)
    have HL : Hid (cs.length = 32768 ∧ ∀ i, i < 16 * n → cs.getD i 0 = ls.getD (pad (mid i)) 0) := ⟨hcl, hct⟩
    have Hb3 : Hid (Below w.heap.size w w3 ∧ Blk w3 gl 54 ls) := ⟨hbw3, hfl3⟩
    have hsrc := part16_src hfl3 (off := p) (by have := Hl.out.1; omega)
    have hcs3' : w3.heap[g]? = some (.cells ((vals cs).toList).toArray 5 (0, 0)) := by have h9 : w3.heap[g]? = some (.cells (vals cs) 5 (0, 0)) := hcs3
                                                                                       simpa using h9
    refine one_L (i := 12) (by kernel_rfl) rfl (fun K hK => ?_)
    have e9 : ((I : Int) + 16).toNat - I = 16 := by omega
    refine step_copy_splice rfl (.tmp 14) (.tmp 21) 28 28 rfl 5 Tryd.underlying28 info5 (some ⟨g, I, none⟩) (some ⟨gl, p, none⟩) _ _ _ _ rfl rfl g I (vals cs).toList 5 hcs3' ((part16 ls p).map (Value.int .u8)) (by rw [List.length_map, part16_len, e9]; exact (Nat.min_eq_right (by omega)).symm) (fun _ => ⟨rfl, _, rfl, hsrc⟩) (by rw [List.length_map, part16_len]; simp [vals]; have := HL.out.1; omega) (one_u8 _) w.heap.size w Hb3.out.1 (by rw [Hg.out]; exact Nat.le_refl _) ?_
    intro w4 hg4 hb4
    refine hK.out _ _ (fun h => absurd rfl h) ?_
    clear hK K
    have HE : Hid (OwnG w g gl ls (n + 1) w4) := by
      have hI := HI.out
      have hfit : I + (part16 ls p).length ≤ cs.length := by rw [part16_len]; have := HL.out.1; omega
      refine ⟨⟨spl cs (part16 ls p) I, ?_, (spl_len hfit).trans HL.out.1, fun i hi => ?_⟩, Hl.out.2.below hb4 Hl.out.2.lt, hb4⟩
      · have h9 := hg4.out
        rw [spl_vals] at h9
        exact h9
      · rw [spl_at hfit, part16_len]
        by_cases q : I ≤ i ∧ i < I + 16
        · rw [if_pos q, part16_at _ _ _ (by omega)]
          obtain ⟨j, hj⟩ : ∃ j, i = 16 * n + j := ⟨i - 16 * n, by omega⟩
          rw [hj, pad_mid (by omega), show 16 * n + j - I = j by omega, ← Hp.out]
        · rw [if_neg q]
          exact HL.out.2 i (by omega)
    clear HS HL Hb3 hsrc hcs3' hcs hfl hbw hcs3 hfl3 hbw3 hcl hct hg4 hb4 Hp Hl Hg hHeld hne e9
    refine done_L (by kernel_rfl) ?_ _
    go_wp2
    obtain ⟨hI1, hI2⟩ := HI.out
    exact ⟨⟨n + 1, by omega, by simp; omega, HE⟩, by simp [intOf]; omega⟩
end Go.Proofs.YtjeapaojbkicmabDoor
