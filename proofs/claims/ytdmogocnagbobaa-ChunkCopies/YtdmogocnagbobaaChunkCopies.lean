/-
  ChunkCopiesSaid is proved: for all slices of calls the statement ChunkCopies returns true, without any condition.
-/
import Derived.Test.YtdmogocnagbobaaPres
import Derived.Deep.RegionHeld3
import Derived.Deep.DeepCutAuto
namespace Go.Proofs.Ytdmogocnagbobaa
open Go.ChangeShapes Go.WideShapes Go.ChangeAt Go.RowKit

set_option maxRecDepth 100000 in
set_option maxHeartbeats 16000000 in
theorem chunkCopies_walk (p : Option Addr) (n cap : Nat) (l : List Op4) (pm : Option Addr) (m capm : Nat) (lm : List Op4) (w : World) (hO : Ops w p n l) (hM : Ops w pm m lm) :
    Calls Try.prog 6 #[.slice p n cap, .slice pm m capm] w fun e w' => e = .returned (.bool true) ∧ Below w.heap.size w w' := by
  obtain ⟨i5, hi5, hz0, hz1, hz2⟩ := info_parts info5
  go_enter Try.func6, Try.ntmps6
  go_wp2_with fail
  refine (awake_c w).mono ?_
  rintro _ w1 ⟨rfl, hb1⟩
  go_wp2_with fail
  refine (plays_c p n cap l w1 (hO.on hb1)).mono ?_
  rintro _ w2 ⟨rfl, hC, hR, hb2⟩
  have R2 := hb1.trans (hb2.mono hb1.size)
  have hlen := playTo_length l (min n 400)
  have hkin := playTo_kinds l (min n 400)
  have hg : w.heap.size ≤ w1.heap.size := hb1.size
  have hgl : w1.heap.size < w2.heap.size := hC.lt
  have hrl : w1.heap.size + 1 < w2.heap.size := hR.lt
  generalize playTo l (min n 400) = cs at *
  clear hb1 hb2
  generalize w1.heap.size = g at *
  go_wp2_with fail
  refine (copy_c g cs _ hC hlen).mono ?_
  rintro _ w3 ⟨rfl, e3⟩
  have hD3 : Blk w3 w2.heap.size 59 cs := by rw [e3]; exact Blk.new w2 59 cs
  have hb3 : Below w2.heap.size w2 w3 := by rw [e3]; exact (Below.refl _ _).alloc (Nat.le_refl _) _
  have hC3 := hC.below hb3 hgl
  have hR3 := hR.below hb3 hrl
  have R3 := R2.trans (hb3.mono R2.size)
  have hd3 : w2.heap.size < w3.heap.size := hD3.lt
  clear e3 hb3 hC hR R2
  generalize w2.heap.size = d at *
  go_wp2_with (at_builtin; refine wpList_append_own _ rfl _ _ 25 rfl w3.heap.size 5 i5 (.int .u8 0) 1 1 Try.underlying25 hi5 hz0 hz1 hz2 rfl (by decide) (.slice none 0 0) 0 [] rfl (World.ownsRow_nil _ _ _ _) ⟨g + 1, 0, none⟩ 32768 32768 (cs.map (Value.int .u8)) rfl (by rw [List.length_map, hlen]) (fun j u hu => by rw [Addr.add_mid]; exact hR3.range j u hu) (by intro v hv; obtain ⟨x, _, rfl⟩ := List.mem_map.1 hv; rfl) (by unfold maxLen; omega) (by omega) (Nat.le_refl _) ?_; intro v' w4 hown' hgrow _)
  have hown2 : w4.ownsRow w3.heap.size 5 1 v' 32768 (cs.map (Value.int .u8)) := by simpa using hown'
  obtain ⟨o, co, rfl, ho3, hP4⟩ := own_pre hlen hown2
  have hb4 : Below w3.heap.size w3 w4 := (Below.refl _ _).grown hgrow (Nat.le_refl _) (fun k hk => by cases hk)
  have F4 : Five w4 g d o cs (actTo cs lm 0) := ⟨hC3.below hb4 hC3.lt, hR3.below hb4 hR3.lt, hD3.below hb4 hd3, hP4⟩
  have R4 := R3.trans (hb4.mono R3.size)
  have hdo : d < o := by omega
  clear hown' hown2 hgrow hb4 hP4 hC3 hR3 hD3 R3 ho3 hd3
  clear hi5 hz0 hz1 hz2
  go_loopw [11] (fun i wr => ∃ k : Nat, k ≤ min m 400 ∧ i = .int .i64 k ∧ Five wr g d o cs (actTo cs lm k) ∧ Below w.heap.size w wr) (fun i _ => 400 - (intOf i).toNat)
  case atStart => exact ⟨0, Nat.zero_le _, rfl, F4, R4⟩
  case round =>
    obtain ⟨k, hk, rfl, hF, hb⟩ := hrel
    clear F4 R4
    have hld : (actTo cs lm k).length = 32768 := by rw [actTo_length, hlen]
    have hkd := actTo_kinds hkin lm k
    by_cases hlt : k < m ∧ k < 400
    · obtain ⟨hn, h4⟩ := hlt
      obtain ⟨b, o', x, rfl, hbl, hx, c0, c1, c2, c3⟩ := (hM.on hb).at' k hn
      have hbw : b < w.heap.size := by
        obtain ⟨b', o'', _, e, h', _⟩ := hM.at' k hn
        cases e
        exact h'
      have hn' : (k : Int) < m := by omega
      have h4' : (k : Int) < 400 := by omega
      have HS : Hid (actTo cs lm (k + 1) = act (actTo cs lm k) x) := actTo_succ cs hx
      generalize actTo cs lm k = ds at *
      by_cases hd : x.d = 1
      · rw [hd] at c0
        have HS' : Hid (actTo cs lm (k + 1) = filC ds x.a x.b x.k) := by show _ = _; rw [HS.out]; unfold act; rw [if_pos hd]
        clear HS
        obtain ⟨xd, xa, xb, xk⟩ := x
        simp only at *
        go_wp2_with fail
        go_region_held3 (fun w' => w'.cell? ⟨b, o' + k * 4 + 1, none⟩ = some (.int .i64 xa) ∧ w'.cell? ⟨b, o' + k * 4 + 2, none⟩ = some (.int .i64 xb) ∧ w'.cell? ⟨b, o' + k * 4 + 3, none⟩ = some (.int .i64 xk)) (go_keep)
          ((first | (go_at_call 22; refine (fill_c d ds xa xb xk _ (by exact hF.d) hld).mono ?_; rintro e w5 ⟨rfl, hD5, ho5⟩; have q1 : w5.cell? ⟨b, o' + k * 4 + 1, none⟩ = some (.int .i64 xa) := ho5.cell' (by exact c1) (by omega); have q2 : w5.cell? ⟨b, o' + k * 4 + 2, none⟩ = some (.int .i64 xb) := ho5.cell' (by exact c2) (by omega); have q3 : w5.cell? ⟨b, o' + k * 4 + 3, none⟩ = some (.int .i64 xk) := ho5.cell' (by exact c3) (by omega))))
        have hP5 : Pre w5 o 5 ds := Pre.only (by exact hF.o) ho5 (by omega)
        have hC5 : Blk w5 g 59 cs := Blk.only (by exact hF.c) ho5 (by omega)
        have hR5 : Blk w5 (g + 1) 5 cs := Blk.only (by exact hF.b) ho5 (by omega)
        have hb5 : Below w.heap.size w w5 := hb.drew.trans (ho5.below (by omega))
        clear ho5 hF hb c0 c1 c2 c3
        go_wp2_with fail
        go_region_held3 (fun w' => w'.cell? ⟨b, o' + k * 4 + 1, none⟩ = some (.int .i64 xa) ∧ w'.cell? ⟨b, o' + k * 4 + 2, none⟩ = some (.int .i64 xb) ∧ w'.cell? ⟨b, o' + k * 4 + 3, none⟩ = some (.int .i64 xk)) (go_keep)
          ((first | (go_at_call 23; refine (rfill_p o co ds xa xb xk _ (by exact hP5) hld).mono ?_; rintro e w6 ⟨rfl, hP6, ho6⟩; have r1 : w6.cell? ⟨b, o' + k * 4 + 1, none⟩ = some (.int .i64 xa) := ho6.cell' (by exact q1) (by omega); have r2 : w6.cell? ⟨b, o' + k * 4 + 2, none⟩ = some (.int .i64 xb) := ho6.cell' (by exact q2) (by omega); have r3 : w6.cell? ⟨b, o' + k * 4 + 3, none⟩ = some (.int .i64 xk) := ho6.cell' (by exact q3) (by omega))))
        have hb6 : Below w.heap.size w w6 := hb5.drew.trans (ho6.below (by omega))
        have R : Five w6 g d o cs (actTo cs lm (k + 1)) := by
          rw [HS'.out]
          exact ⟨Blk.only (by exact hC5) ho6 (by omega), Blk.only (by exact hR5) ho6 (by omega), Blk.only (by exact hD5) ho6 (by omega), hP6⟩
        clear ho6 hP5 hC5 hR5 hb5 hD5 hP6 q1 r1 q2 r2 q3 r3
        go_wp2
        go_roundw
        case rel => exact ⟨k + 1, by omega, by go_num, R, hb6⟩
        case measure => simp [intOf]; omega
      · have HS' : Hid (actTo cs lm (k + 1) = setC ds x.a x.k) := by show _ = _; rw [HS.out]; unfold act; rw [if_neg hd]
        clear HS
        obtain ⟨xd, xa, xb, xk⟩ := x
        simp only at *
        have hd' : (xd == 1) = false := by simp [hd]
        go_wp2_with fail
        go_region_held3 (fun w' => w'.cell? ⟨b, o' + k * 4 + 1, none⟩ = some (.int .i64 xa) ∧ w'.cell? ⟨b, o' + k * 4 + 3, none⟩ = some (.int .i64 xk)) (go_keep)
          ((first | (go_at_call 24; refine (set_c d ds xa xk _ (by exact hF.d) hld).mono ?_; rintro e w5 ⟨rfl, hD5, ho5⟩; have q1 : w5.cell? ⟨b, o' + k * 4 + 1, none⟩ = some (.int .i64 xa) := ho5.cell' (by exact c1) (by omega); have q3 : w5.cell? ⟨b, o' + k * 4 + 3, none⟩ = some (.int .i64 xk) := ho5.cell' (by exact c3) (by omega))))
        have hP5 : Pre w5 o 5 ds := Pre.only (by exact hF.o) ho5 (by omega)
        have hC5 : Blk w5 g 59 cs := Blk.only (by exact hF.c) ho5 (by omega)
        have hR5 : Blk w5 (g + 1) 5 cs := Blk.only (by exact hF.b) ho5 (by omega)
        have hb5 : Below w.heap.size w w5 := hb.drew.trans (ho5.below (by omega))
        clear ho5 hF hb c0 c1 c2 c3
        go_wp2_with fail
        go_region_held3 (fun w' => w'.cell? ⟨b, o' + k * 4 + 1, none⟩ = some (.int .i64 xa) ∧ w'.cell? ⟨b, o' + k * 4 + 3, none⟩ = some (.int .i64 xk)) (go_keep)
          ((first | (go_at_call 25; refine (rset_p o co ds xa xk _ (by exact hP5) hld).mono ?_; rintro e w6 ⟨rfl, hP6, ho6⟩; have r1 : w6.cell? ⟨b, o' + k * 4 + 1, none⟩ = some (.int .i64 xa) := ho6.cell' (by exact q1) (by omega); have r3 : w6.cell? ⟨b, o' + k * 4 + 3, none⟩ = some (.int .i64 xk) := ho6.cell' (by exact q3) (by omega))))
        have hb6 : Below w.heap.size w w6 := hb5.drew.trans (ho6.below (by omega))
        have R : Five w6 g d o cs (actTo cs lm (k + 1)) := by
          rw [HS'.out]
          exact ⟨Blk.only (by exact hC5) ho6 (by omega), Blk.only (by exact hR5) ho6 (by omega), Blk.only (by exact hD5) ho6 (by omega), hP6⟩
        clear ho6 hP5 hC5 hR5 hb5 hD5 hP6 q1 r1 q3 r3
        go_wp2
        go_roundw
        case rel => exact ⟨k + 1, by omega, by go_num, R, hb6⟩
        case measure => simp [intOf]; omega
    · generalize actTo cs lm k = ds at *
      clear hM
      go_upto_region 10 with fail
      go_cut [44] (fun v wc => v = .bool false ∧ wc = wr)
      case first =>
        by_cases hkn : k < m
        · have e4 : k = 400 := by omega
          subst e4
          have h4' : ((400 : Nat) : Int) < m := by omega
          go_wp2
          go_meet
          case rel => exact ⟨rfl, rfl⟩
        · have h4' : ¬ (k : Int) < m := by omega
          go_wp2
          go_meet
          case rel => exact ⟨rfl, rfl⟩
      case rest =>
      obtain ⟨rfl, hwc⟩ := hcut
      replace hwc := hwc.symm
      subst hwc
      go_wp2_with fail
      refine (diff_c g d cs ds _ hF.c hF.d hlen hld).mono ?_
      rintro _ w7 ⟨v7, rfl, hI7, hb7⟩
      obtain ⟨a7, p7, rfl, hA7⟩ := hI7.open
      have F7 := hF.on hb7
      have R7 := hb.trans (hb7.mono hb.size)
      clear hI7 hb7 hF hb
      go_wp2_with fail
      refine (diff_c d g ds cs _ F7.d F7.c hld hlen).mono ?_
      rw [diffTo_comm cs ds]
      rintro _ w8 ⟨v8, rfl, hI8, hb8⟩
      obtain ⟨a8, p8, rfl, hA8⟩ := hI8.open
      have F8 := F7.on hb8
      have hA7' := hA7.on hb8
      have R8 := R7.trans (hb8.mono R7.size)
      clear hI8 hb8 F7 R7 hA7
      go_wp2_with fail
      refine (rdiff_p (g + 1) o co cs ds _ F8.b F8.o hlen hld).mono ?_
      rintro _ w9 ⟨v9, rfl, hI9, hb9⟩
      obtain ⟨a9, p9, rfl, hA9⟩ := hI9.open
      have F9 := F8.on hb9
      have hB7 := hA7'.on hb9
      have hB8 := hA8.on hb9
      have R9 := R8.trans (hb9.mono R8.size)
      have hN := diffTo_length cs ds 32768
      clear hI9 hb9 F8 R8 hA7' hA8
      obtain ⟨N, hNe⟩ : ∃ N, N = (diffTo cs ds 32768).length := ⟨_, rfl⟩
      rw [← hNe] at hN ⊢
      generalize diffTo cs ds 32768 = L at *
      have HN : Hid (N = L.length) := hNe
      clear hNe
      go_wp2
      go_loopw [15] (fun i wr => ∃ k : Nat, k ≤ N ∧ i = .int .i64 k ∧ Five wr g d o cs ds ∧ At64 wr a7 L ∧ At64 wr a8 L ∧ At64 wr a9 L ∧ Below w.heap.size w wr) (fun i _ => N - (intOf i).toNat)
      case atStart => exact ⟨0, Nat.zero_le _, rfl, F9, hB7, hB8, hA9, R9⟩
      case round =>
        obtain ⟨k, hk, rfl, hF, h7, h8, h9, R10⟩ := hrel
        clear F9 hB7 hB8 hA9 R9
        by_cases hlt : k < N
        · have hkL : k < L.length := by rw [← HN.out]; exact hlt
          obtain ⟨x7, rfl, _, c7⟩ := h7 k hkL
          obtain ⟨x8, rfl, _, c8⟩ := h8 k hkL
          obtain ⟨x9, rfl, _, c9⟩ := h9 k hkL
          generalize L.getD k 0 = v at c7 c8 c9
          have hlt' : (k : Int) < N := by omega
          go_wp2_with fail
          go_quiet (fail)
          go_wp2
          go_roundw
          case rel => exact ⟨k + 1, by omega, by go_num, hF.drewN _, h7.drewN _, h8.drewN _, h9.drewN _, below_drewN R10 _⟩
          case measure => simp [intOf]; omega
        · obtain rfl : k = N := by omega
          clear h7 h8 h9
          go_wp2_with fail
          refine (bytes_c g cs _ hF.c hlen).mono ?_
          rintro _ w10 ⟨rfl, hZ, hbz⟩
          have F10 := hF.on hbz
          have Rz := R10.trans (hbz.mono R10.size)
          have hz0 : g < wr.heap.size := hF.c.lt
          have hz1 : g + 1 < wr.heap.size := hF.b.lt
          have hz2 : d < wr.heap.size := hF.d.lt
          have hz3 : o < wr.heap.size := hF.o.lt
          have hz4 : w.heap.size ≤ wr.heap.size := R10.size
          clear hbz hF R10
          generalize wr.heap.size = zb at *
          clear wr
          go_wp2
          go_loopw [17] (fun i wr => ∃ k : Nat, k ≤ 32768 ∧ i = .int .i64 k ∧ Blk wr zb 5 (filTo cs 0 77 k) ∧ Five wr g d o cs ds ∧ Below w.heap.size w wr) (fun i _ => 32768 - (intOf i).toNat)
          case atStart => exact ⟨0, Nat.zero_le _, rfl, hZ, F10, Rz⟩
          case round =>
            obtain ⟨j, hj, rfl, hZ1, hF, R10⟩ := hrel
            clear hZ F10 Rz
            by_cases hlt : j < 32768
            · have hc := hZ1.cell (k := j) (by rw [filTo_length, hlen]; exact hlt)
              have hf := hZ1.free j
              have hlt' : (j : Int) < 32768 := by omega
              generalize (filTo cs 0 77 j).getD j 0 = x at hc
              have Q1 : Blk (wr.setCell ⟨zb, j, none⟩ (.int .u8 77)) zb 5 (filTo cs 0 77 (j + 1)) := by show Blk _ _ _ ((filTo cs 0 77 j).set (0 + j) 77); rw [Nat.zero_add]; exact hZ1.set j 77
              have Q2 : Five (wr.setCell ⟨zb, j, none⟩ (.int .u8 77)) g d o cs ds := hF.only ((Only.refl zb wr).set j _) (by omega) (by omega) (by omega) (by omega)
              have Q3 : Below w.heap.size w (wr.setCell ⟨zb, j, none⟩ (.int .u8 77)) := R10.setCell (p := ⟨zb, j, none⟩) hz4 _
              clear hZ1 hF R10
              go_wp2
              go_roundw
              case rel => exact ⟨j + 1, by omega, by go_num, Q1, Q2, Q3⟩
              case measure => simp [intOf]; omega
            · obtain rfl : j = 32768 := by omega
              clear hZ1
              go_wp2_with fail
              refine wp_region_held_drew (S := fun w' => Blk w' (g + 1) 5 cs ∧ Pre w' o 5 ds) (by kernel_rfl) ⟨by exact hF.b, by exact hF.o⟩ (fun hHeld => ?_)
              have hne : Nonempty (Sub (fun w' => Blk w' (g + 1) 5 cs ∧ Pre w' o 5 ds)) := ⟨⟨_, hHeld⟩⟩
              have hcv : ∀ s : Sub (fun w' => Blk w' (g + 1) 5 cs ∧ Pre w' o 5 ds), (convert 25 9 (.slice (some ⟨g + 1, 0, none⟩) 32768 32768)).run Try.prog s.w = .ok (.string (strOfNums cs)) s.w := fun s => Blk.conv s.ok.1 hlen hkin
              refine take_step (i := 0) rfl (by kernel_rfl) (by kernel_rfl) (by kernel_rfl) (fun _ _ _ _ h => h) (by exact hHeld) (fun K hK => ?_)
              go_simp
              refine hK _ ?_
              clear hK K
              refine take_step (i := 3) rfl (by kernel_rfl) (by kernel_rfl) (by kernel_rfl) (fun _ _ _ _ h => h) (by exact hHeld) (fun K hK => ?_)
              go_simp
              refine hK _ ?_
              clear hK K
              refine take_step (i := 4) rfl (by kernel_rfl) (by kernel_rfl) (by kernel_rfl) (fun _ _ _ _ h => h) (by exact hHeld) (fun K hK => ?_)
              go_simp
              refine hK _ ?_
              clear hK K
              refine wpAnyH_ready (rs := [1]) (by kernel_rfl) (by simp) ?_
              refine AllReadyH.cons rfl (fun K hK => ?_) AllReadyH.nil
              go_simp
              refine (bytes_c g cs _ (by exact hF.c) hlen).mono ?_
              rintro e w11 ⟨rfl, hB11, hb11⟩
              have R11 := R10.drew.trans (hb11.mono R10.size)
              have F11 : Five w11 g d o cs ds := Five.on ⟨by exact hF.c, by exact hF.b, by exact hF.d, by exact hF.o⟩ hb11
              have hB11' : Blk w11 wr.heap.size 5 cs := hB11
              clear hb11 hB11
              refine hK.out _ _ ⟨F11.b, F11.o⟩ (fun hHeld => ?_)
              clear hK K
              refine wpAnyH_strong (S' := fun w' => (Blk w' (g + 1) 5 cs ∧ Pre w' o 5 ds) ∧ Blk w' wr.heap.size 5 cs) (fun _ h => h.1) ?_
              replace hHeld := And.intro (And.intro F11.b F11.o) hB11'
              have hne : Nonempty (Sub (fun w' => (Blk w' (g + 1) 5 cs ∧ Pre w' o 5 ds) ∧ Blk w' wr.heap.size 5 cs)) := ⟨⟨_, hHeld⟩⟩
              have hcw : ∀ s : Sub (fun w' => (Blk w' (g + 1) 5 cs ∧ Pre w' o 5 ds) ∧ Blk w' wr.heap.size 5 cs), (convert 25 9 (.slice (some ⟨wr.heap.size, 0, none⟩) 32768 32768)).run Try.prog s.w = .ok (.string (strOfNums cs)) s.w := fun s => Blk.conv s.ok.2 hlen hkin
              have hcx : ∀ s : Sub (fun w' => (Blk w' (g + 1) 5 cs ∧ Pre w' o 5 ds) ∧ Blk w' wr.heap.size 5 cs), (convert 25 9 (.slice (some ⟨o, 0, none⟩) 32768 co)).run Try.prog s.w = .ok (.string (strOfNums ds)) s.w := fun s => Pre.conv s.ok.1.2 hld hkd
              refine take_step (i := 2) rfl (by kernel_rfl) (by kernel_rfl) (by kernel_rfl) (fun _ _ _ _ h => h) (by exact hHeld) (fun K hK => ?_)
              go_simp
              refine hK _ ?_
              clear hK K
              refine take_step (i := 5) rfl (by kernel_rfl) (by kernel_rfl) (by kernel_rfl) (fun _ _ _ _ h => h) (by exact hHeld) (fun K hK => ?_)
              go_simp
              refine hK _ ?_
              clear hK K
              refine take_step (i := 6) rfl (by kernel_rfl) (by kernel_rfl) (by kernel_rfl) (fun _ _ _ _ h => h) (by exact hHeld) (fun K hK => ?_)
              go_simp
              refine hK _ ?_
              clear hK K
              refine take_step (i := 7) rfl (by kernel_rfl) (by kernel_rfl) (by kernel_rfl) (fun _ _ _ _ h => h) (by exact hHeld) (fun K hK => ?_)
              go_simp
              refine hK _ ?_
              clear hK K
              refine take_step (i := 10) rfl (by kernel_rfl) (by kernel_rfl) (by kernel_rfl) (fun _ _ _ _ h => h) (by exact hHeld) (fun K hK => ?_)
              go_simp
              refine hK _ ?_
              clear hK K
              refine take_step (i := 11) rfl (by kernel_rfl) (by kernel_rfl) (by kernel_rfl) (fun _ _ _ _ h => h) (by exact hHeld) (fun K hK => ?_)
              go_simp
              refine hK _ ?_
              clear hK K
              refine wpAnyH_ready (rs := [8]) (by kernel_rfl) (by simp) ?_
              refine AllReadyH.cons rfl (fun K hK => ?_) AllReadyH.nil
              go_simp
              refine (bytes_c d ds _ (by exact F11.d) hld).mono ?_
              rintro e w12 ⟨rfl, hB12, hb12⟩
              have R12 := R11.trans (hb12.mono R11.size)
              have F12 : Five w12 g d o cs ds := F11.on hb12
              have hZ12 : Blk w12 wr.heap.size 5 cs := hB11'.below hb12 hB11'.lt
              clear hb12
              refine hK.out _ _ ⟨⟨F12.b, F12.o⟩, hZ12⟩ (fun hHeld => ?_)
              clear hK K
              refine wpAnyH_strong (S' := fun w' => ((Blk w' (g + 1) 5 cs ∧ Pre w' o 5 ds) ∧ Blk w' wr.heap.size 5 cs) ∧ Blk w' w11.heap.size 5 ds) (fun _ h => h.1) ?_
              replace hHeld := And.intro (And.intro (And.intro F12.b F12.o) hZ12) hB12
              have hne : Nonempty (Sub (fun w' => ((Blk w' (g + 1) 5 cs ∧ Pre w' o 5 ds) ∧ Blk w' wr.heap.size 5 cs) ∧ Blk w' w11.heap.size 5 ds)) := ⟨⟨_, hHeld⟩⟩
              have hcy : ∀ s : Sub (fun w' => ((Blk w' (g + 1) 5 cs ∧ Pre w' o 5 ds) ∧ Blk w' wr.heap.size 5 cs) ∧ Blk w' w11.heap.size 5 ds), (convert 25 9 (.slice (some ⟨w11.heap.size, 0, none⟩) 32768 32768)).run Try.prog s.w = .ok (.string (strOfNums ds)) s.w := fun s => Blk.conv s.ok.2 hld hkd
              refine take_step (i := 9) rfl (by kernel_rfl) (by kernel_rfl) (by kernel_rfl) (fun _ _ _ _ h => h) (by exact hHeld) (fun K hK => ?_)
              go_simp
              refine hK _ ?_
              clear hK K
              refine take_step (i := 12) rfl (by kernel_rfl) (by kernel_rfl) (by kernel_rfl) (fun _ _ _ _ h => h) (by exact hHeld) (fun K hK => ?_)
              go_simp
              refine hK _ ?_
              clear hK K
              refine take_step (i := 13) rfl (by kernel_rfl) (by kernel_rfl) (by kernel_rfl) (fun _ _ _ _ h => h) (by exact hHeld) (fun K hK => ?_)
              go_simp
              refine hK _ ?_
              clear hK K
              refine take_step (i := 14) rfl (by kernel_rfl) (by kernel_rfl) (by kernel_rfl) (fun _ _ _ _ h => h) (by exact hHeld) (fun K hK => ?_)
              go_simp
              refine hK _ ?_
              clear hK K
              refine take_step (i := 15) rfl (by kernel_rfl) (by kernel_rfl) (by kernel_rfl) (fun _ _ _ _ h => h) (by exact hHeld) (fun K hK => ?_)
              go_simp
              refine hK _ ?_
              clear hK K
              refine wpAnyH_ready (rs := [16]) (by kernel_rfl) (by simp) ?_
              refine AllReadyH.cons rfl (fun K hK => ?_) AllReadyH.nil
              go_simp
              refine (diff_none g _).mono ?_
              rintro e w13 ⟨rfl, hs13, hb13⟩
              have R13 := R12.trans (hb13.mono R12.size)
              have F13 : Five w13 g d o cs ds := F12.on hb13
              have hY13 : Blk w13 wr.heap.size 5 cs := hZ12.below hb13 hZ12.lt
              have hB13 : Blk w13 w11.heap.size 5 ds := hB12.below hb13 hB12.lt
              refine hK.out _ _ ⟨⟨⟨F13.b, F13.o⟩, hY13⟩, hB13⟩ (fun hHeld => ?_)
              clear hK K
              refine take_step (i := 17) rfl (by kernel_rfl) (by kernel_rfl) (by kernel_rfl) (fun _ _ _ _ h => h) (by exact hHeld) (fun K hK => ?_)
              go_simp
              refine hK _ ?_
              clear hK K
              refine take_step (i := 18) rfl (by kernel_rfl) (by kernel_rfl) (by kernel_rfl) (fun _ _ _ _ h => h) (by exact hHeld) (fun K hK => ?_)
              go_simp
              refine hK _ ?_
              clear hK K
              refine take_step (i := 19) rfl (by kernel_rfl) (by kernel_rfl) (by kernel_rfl) (fun _ _ _ _ h => h) (by exact hHeld) (fun K hK => ?_)
              go_simp
              refine hK _ ?_
              clear hK K
              refine take_step (i := 20) rfl (by kernel_rfl) (by kernel_rfl) (by kernel_rfl) (fun _ _ _ _ h => h) (by exact hHeld) (fun K hK => ?_)
              go_simp
              refine hK _ ?_
              clear hK K
              refine wpAnyH_done (by kernel_rfl) ?_ _
              go_wp2
              go_ret
              exact ⟨rfl, R13⟩

set_option maxRecDepth 100000 in
theorem chunkCopies_lifted (os : Os) (started : os.Started) (H : Type) (enc : TypeId × Value → H) :
    ReturnsInHanded {} Try.checked os 6 .any (Rows.chunkCopiesSpec.pre6 enc Try.prog Try.f6 Rows.chunkCopiesRow.domain false) (Rows.chunkCopiesSpec.post enc Try.prog Try.f6 false true false false) := by
  refine returnsInHanded_of_change (C := Try.checked) own started (by kernel_rfl) Try.func6
    (ChangeSpec.witness6 (enc := enc) (C := Try.checked) false ⟨#[], #[.slice none 0 0, .slice none 0 0], []⟩ 8 (by kernel_rfl) (by kernel_rfl) (by kernel_rfl) (by kernel_rfl)) ?_
  intro W base args ds gs before hval0 hW _ _
  have hval : ∀ (j : Nat) t v, Try.f6.params[j]? = some t → args[j]? = some v → Value.okWide Try.prog W .any base t v := hval0
  have hW' := hW
  obtain ⟨p, q, hA0, hV, rfl, hfz, hnd⟩ := hW
  have hA : DataW.TrodAll enc Try.prog W 0 (fun _ => true) true Try.f6.params.toList args.toList ds p := hA0
  rw [Try.params6] at hA hval
  obtain ⟨v0, vs0, d0, ds0, p0, q0, hargs, rfl, rfl, h0, r0⟩ := trodAll_cons hA
  obtain ⟨v1, vs1, d1, ds1, p1, q1, rfl, rfl, rfl, h1, r1⟩ := trodAll_cons r0
  obtain ⟨rfl, rfl, rfl⟩ := trodAll_nil r1
  obtain rfl : args = #[v0, v1] := by cases args; simp_all
  obtain ⟨rfl, rfl⟩ := trodVars_none hV
  obtain ⟨a_l, len_l, cap_l, rfl⟩ := okWide_slice Try.underlying22 (hval 0 22 v0 rfl rfl)
  have lt0 : ∀ x ∈ p0, x.block < W.heap.size := by obtain ⟨m, hm⟩ := h0; exact DataW.trod_lt m _ _ _ hm
  obtain ⟨l_l, O_l⟩ := open_ops h0
  obtain ⟨a_m, len_m, cap_m, rfl⟩ := okWide_slice Try.underlying22 (hval 1 22 v1 rfl rfl)
  have lt1 : ∀ x ∈ p1, x.block < W.heap.size := by obtain ⟨m, hm⟩ := h1; exact DataW.trod_lt m _ _ _ hm
  obtain ⟨l_m, O_m⟩ := open_ops h1
  clear hA0 hval0
  refine (chunkCopies_walk a_l len_l cap_l l_l a_m len_m cap_m l_m W O_l O_m).mono fun e W' ⟨he, bel⟩ => ?_
  subst he
  exact ⟨_, rfl, _, _, _, [], _, [], hW', trodAll_mk1 (shut_bool Try.underlying4 _), (trodAll_cons_mk (Below.trod laidOut (by kernel_rfl) (of_decide_eq_true (by kernel_rfl)) h0 bel lt0) (trodAll_cons_mk (Below.trod laidOut (by kernel_rfl) (of_decide_eq_true (by kernel_rfl)) h1 bel lt1) trodAll_mk0)), rfl, bel.frame _, fun h => by cases h⟩

theorem chunkCopies_holds : Rows.ChunkCopiesSaid :=
  OpenClaim.holds_of_wide 6 Try.f6 rfl rfl rfl rfl rfl rfl rfl ⟨rfl, rfl, rfl, rfl, rfl⟩ rfl rfl rfl rfl rfl (by kernel_rfl) Try.func6 (by kernel_rfl)
    (of_decide_eq_true (by kernel_rfl)) (by unfold Func.isWrapper; rw [if_neg (of_decide_eq_false (by kernel_rfl))]; exact ⟨rfl, rfl⟩)
    (fun os started H enc _ => chunkCopies_lifted os started H enc)
#print axioms chunkCopies_holds
end Go.Proofs.Ytdmogocnagbobaa
