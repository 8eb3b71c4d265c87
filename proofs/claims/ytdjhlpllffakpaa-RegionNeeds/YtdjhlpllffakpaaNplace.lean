/-
  The program's region: place.
-/
import Derived.Test.YtdjhlpllffakpaaNhdr
import Derived.Test.YtdjhlpllffakpaaNplan
import Derived.BigQuiet
import Derived.Deep.QuietTactic
set_option maxRecDepth 20000
namespace Go.Proofs.Ytdjhlpllffakpaa
open Go.RowKit

/-- A slot that has nothing yet. -/
def zS : Sm := ⟨0, 0, none, 0, []⟩
def mkS (h : En) : Sm := ⟨h.1.1, h.1.2, none, 0, []⟩
/-- A struct in a cell and one more are handed back. -/
theorem results_row_tmp {P : Program} {fn : Func} {p u : Tmp} {ty : TypeId} (h : fn.results = #[.cell p ty, .tmp u]) (tmps : Array Value) (w : World) (g : Nat) (t : TypeId) (cs : Array Value) (fr : Nat × Nat) (d : TypeDesc)
    (hp : tmps.getD p undef = .pointer (some ⟨g, 0, none⟩)) (hg : w.heap[g]? = some (.cells cs t fr))
    (hu : P.underlying ty = some d) (hd : (match d with | .struct _ | .array _ _ => true | _ => false) = true) (hi : (P.info? ty).map (·.size) = some cs.size) :
    (results fn tmps).run P w = .ok (.tuple #[.agg cs, tmps.getD u undef]) w := by
  rw [results_cell_tmp h, hp]
  simp [asAddr, run_loadVar_row w g t ty cs fr d hg hu hd hi, Result.andThen]
def PlaceSay (g : Nat) (x z : Int) (hs : List En) (w : World) (e : Ending) (w' : World) : Prop := Chg (fun k => k = g) w w' ∧
  ((¬ HdOk hs ∧ e = .returned (.tuple #[.agg (lvals (List.replicate 16 0)).toArray, .int .i64 4])) ∨ (HdOk hs ∧ e = .returned (.tuple #[.agg (lvals (hs.map (·.2))).toArray, .int .i64 0]) ∧ RB w' g x z (hs.map mkS)))
/-- Behind j entries. -/
structure Pli (w : World) (g : Nat) (x z : Int) (hs : List En) (lb sg tb j : Nat) (wr : World) : Prop where
  rg : RB wr g x z ((hs.map mkS).take j ++ List.replicate (16 - j) zS)
  ln : LRow wr lb ((hs.map (·.2)).take j ++ List.replicate (16 - j) 0)
  rs : LRow wr w.heap.size (List.replicate 16 0)
  sp : Q.PS wr sg tb 2 (tkR ((hs.take j).map (·.1)))
  ok : HdOk (hs.take j)
  chg : Chg (fun k => k = g) w wr
/-- What lies apart. -/
structure Ap (w : World) (g lb sg tb : Nat) : Prop where
  g : g < w.heap.size
  l : w.heap.size < lb
  s : lb < sg
  t : lb < tb
theorem Pli.on {w : World} {g : Nat} {x z : Int} {hs : List En} {lb sg tb j : Nat} {wr w' : World} (h : Pli w g x z hs lb sg tb j wr) (hb : Below wr.heap.size wr w') : Pli w g x z hs lb sg tb j w' :=
  ⟨h.rg.on hb, h.ln.on hb, h.rs.on hb, h.sp.on hb, h.ok, h.chg.trans (Chg.of_below (F := fun k => k = g) hb) (fun _ hj => .inl hj)⟩
theorem pad_same {α : Type} {L : List α} {z : α} {j : Nat} (hn : L.length = 16) (e : L[j]? = some z) : L.take j ++ List.replicate (16 - j) z = L.take (j + 1) ++ List.replicate (16 - (j + 1)) z := by
  have hlt : j < L.length := (List.getElem?_eq_some_iff.1 e).1
  rw [← pad_set hn e]
  apply List.ext_getElem?
  intro i
  rw [List.getElem?_set]
  split
  · rename_i h
    subst h
    rw [if_pos (by rw [List.length_append, List.length_take, List.length_replicate]; omega), List.getElem?_append_right (by rw [List.length_take]; omega), List.getElem?_replicate, if_pos (by rw [List.length_take]; omega)]
  · rfl
set_option maxHeartbeats 1000000 in
theorem place_c (g : Nat) (x z : Int) (a : Option Addr) (c : Nat) (hb : List Int) (w : World) (H : RB w g x z (List.replicate 16 zS)) (hB : Bytes w a 64 hb) (hc : 64 ≤ c) :
    Calls Try.prog 31 #[.pointer (some ⟨g, 0, none⟩), .slice a 64 c] w (PlaceSay g x z (entS hb) w) := by
  obtain ⟨Post, hPost⟩ : ∃ Post : Ending → World → Prop, Post = PlaceSay g x z (entS hb) w := ⟨_, rfl⟩
  rw [← hPost]
  obtain ⟨hs, hhs⟩ : ∃ hs, hs = entS hb := ⟨_, rfl⟩
  have HPn : Hid (∀ w', ¬ HdOk hs → Chg (fun k => k = g) w w' → Post (.returned (.tuple #[.agg (lvals (List.replicate 16 0)).toArray, .int .i64 4])) w') := fun w' h1 h2 => by rw [hPost, ← hhs]; exact ⟨h2, .inl ⟨h1, rfl⟩⟩
  have HPy : Hid (∀ w', HdOk hs → Chg (fun k => k = g) w w' → RB w' g x z (hs.map mkS) → Post (.returned (.tuple #[.agg (lvals (hs.map (·.2))).toArray, .int .i64 0])) w') := fun w' h1 h2 h3 => by rw [hPost, ← hhs]; exact ⟨h2, .inr ⟨h1, rfl, h3⟩⟩
  have Hhl : Hid (hs.length = 16) := by show _ = _; rw [hhs]; exact entN_len hb
  have Hhe : Hid (∀ k (h : k < hs.length), hs[k] = (((hb.getD (4 * k) 0).toNat, (hb.getD (4 * k + 1) 0).toNat), (hb.getD (4 * k + 2) 0).toNat + 256 * (hb.getD (4 * k + 3) 0).toNat)) := fun k h => by
    subst hhs
    exact entN_at hb k (by rw [entN_len] at h; exact h)
  clear hPost hhs
  have HB : Hid (RB w g x z (List.replicate 16 zS)) := H
  have HY : Hid (Bytes w a 64 hb) := hB
  have hgl := H.lt
  obtain ⟨ag, ao, _, rfl, _⟩ := hB.get 0 (by omega)
  clear H hB
  have e16 : (lvals (List.replicate 16 0)).toArray = #[.int .i64 0, .int .i64 0, .int .i64 0, .int .i64 0, .int .i64 0, .int .i64 0, .int .i64 0, .int .i64 0, .int .i64 0, .int .i64 0, .int .i64 0, .int .i64 0, .int .i64 0, .int .i64 0, .int .i64 0, .int .i64 0] := by rfl
  obtain ⟨Z16, hZ16⟩ : ∃ Z16 : Array Value, Z16 = #[.int .i64 0, .int .i64 0, .int .i64 0, .int .i64 0, .int .i64 0, .int .i64 0, .int .i64 0, .int .i64 0, .int .i64 0, .int .i64 0, .int .i64 0, .int .i64 0, .int .i64 0, .int .i64 0, .int .i64 0, .int .i64 0] := ⟨_, rfl⟩
  go_enter Try.func31, Try.ntmps31
  go_wp2_with fail
  rw [← hZ16] at e16 ⊢
  have HZ : Hid ((lvals (List.replicate 16 0)).toArray = Z16) := e16
  clear e16
  have hb1 : Below w.heap.size w (w.alloc (.cells Z16 76)) := (Below.refl _ _).alloc (Nat.le_refl _) _
  have hr1 : LRow (w.alloc (.cells Z16 76)) w.heap.size (List.replicate 16 0) := by show _ = _; rw [HZ.out]; exact heap_alloc_new w _
  have hs1 : (w.alloc (.cells Z16 76)).heap.size = w.heap.size + 1 := by simp
  generalize w.alloc (.cells Z16 76) = w1 at *
  have hb2 : Below w1.heap.size w1 (w1.alloc (.cells Z16 76)) := (Below.refl _ _).alloc (Nat.le_refl _) _
  have hr2 : LRow (w1.alloc (.cells Z16 76)) w1.heap.size (List.replicate 16 0) := by show _ = _; rw [HZ.out]; exact heap_alloc_new w1 _
  have hs2 : (w1.alloc (.cells Z16 76)).heap.size = w1.heap.size + 1 := by simp
  generalize w1.alloc (.cells Z16 76) = w2 at *
  have hb12 : Below w.heap.size w w2 := hb1.trans (hb2.mono hb1.size)
  have HB2 : Hid (RB w2 g x z (List.replicate 16 zS)) := HB.out.on hb12
  refine (room_c g x z (List.replicate 16 zS) w2 HB2.out (fun s hs => by rw [List.eq_of_mem_replicate hs]; exact ⟨by decide, by decide⟩)).mono ?_
  rintro _ w3 ⟨hb3, sg, tb, rfl, hsg, htb, hS⟩
  have emk : marks (List.replicate 40 false) ((List.replicate 16 zS).map Sm.sp) = tkR ((hs.take 0).map (·.1)) := by
    rw [marks_is ⟨fun s hs => by rw [List.map_replicate] at hs; rw [List.eq_of_mem_replicate hs]; exact .inl rfl, fun i => by
      rw [cnt_zero (fun s hs h2 => by rw [List.map_replicate] at hs; rw [List.eq_of_mem_replicate hs] at h2; simp only [zS, Sm.sp] at h2; omega)]; omega⟩]
    apply List.ext_getElem?
    intro i
    rw [tkR_get, tkR_get, cnt_zero (fun s hs h2 => by rw [List.map_replicate] at hs; rw [List.eq_of_mem_replicate hs] at h2; simp only [zS, Sm.sp] at h2; omega)]
    rfl
  rw [emk] at hS
  have HP0 : Hid (Pli w g x z hs w1.heap.size sg tb 0 w3) := ⟨HB2.out.on hb3, hr2.on hb3, (hr1.on hb2).on hb3, hS, ⟨fun e he => by simp at he, fun i => by simp [cnt]⟩, Chg.of_below (hb12.trans (hb3.mono hb12.size))⟩
  have HA : Hid (Ap w g w1.heap.size sg tb) := ⟨hgl, by omega, by omega, by omega⟩
  rw [hs1] at HP0 HA
  obtain ⟨lb, hlb⟩ : ∃ lb, lb = w.heap.size + 1 := ⟨_, rfl⟩
  rw [← hlb] at HP0 HA ⊢
  clear hb1 hr1 hs1 hb2 hr2 hs2 hb12 hb3 hsg htb hS emk HB2 hlb
  go_wp2_with fail
  go_loopw [14] (fun v wr => ∃ (j : Nat), j ≤ 16 ∧ v = .int .i64 (j : Int) ∧ Hid (Pli w g x z hs lb sg tb j wr)) (fun v _ => 16 - (intOf v).toNat)
  case atStart => exact ⟨0, Nat.zero_le _, by go_num, HP0⟩
  case round =>
    clear HP0
    obtain ⟨j, hj, rfl, HI⟩ := hrel
    by_cases hlt : j < 16
    · have hlt' : (j : Int) < 16 := by omega
      have hjl : j < hs.length := by rw [Hhl.out]; exact hlt
      have hbl := HY.out.n
      have hfit : ∀ i, i < 4 → ∃ b : Nat, b < 256 ∧ hb.getD (4 * j + i) 0 = (b : Int) := fun i hi => by
        have hlen : 4 * j + i < hb.length := by omega
        have := HY.out.fit hb[4 * j + i] (List.getElem_mem hlen)
        refine ⟨hb[4 * j + i].toNat, by omega, ?_⟩
        rw [List.getD_eq_getElem?_getD, List.getElem?_eq_getElem hlen]
        simp only [Option.getD_some]
        omega
      obtain ⟨B0, hB0, g0⟩ := hfit 0 (by omega)
      obtain ⟨B1, hB1, g1⟩ := hfit 1 (by omega)
      obtain ⟨B2, hB2, g2⟩ := hfit 2 (by omega)
      obtain ⟨B3, hB3, g3⟩ := hfit 3 (by omega)
      have He : Hid (hs[j] = ((B0, B1), B2 + 256 * B3)) := by
        show _ = _
        rw [Hhe.out j hjl, show hb.getD (4 * j) 0 = (B0 : Int) from g0, g1, g2, g3]
        simp
      have Hx4 : Hid ((hb.drop (4 * j)).take 4 = [(B0 : Int), (B1 : Int), (B2 : Int), (B3 : Int)]) := by
        show _ = _
        apply List.ext_getElem?
        intro i
        rw [List.getElem?_take]
        have key : ∀ i, i < 4 → hb[4 * j + i]? = some (hb.getD (4 * j + i) 0) := fun i hi => by
          rw [List.getD_eq_getElem?_getD, List.getElem?_eq_getElem (show 4 * j + i < hb.length by omega)]
          rfl
        by_cases hi : i < 4
        · rw [if_pos hi, List.getElem?_drop, key i hi]
          match i, hi with
          | 0, _ => rw [g0]; rfl
          | 1, _ => rw [g1]; rfl
          | 2, _ => rw [g2]; rfl
          | 3, _ => rw [g3]; rfl
        · rw [if_neg hi, List.getElem?_eq_none (by simp; omega)]
      clear g0 g1 g2 g3 hfit
      have HYw : Hid (Bytes wr (some ⟨ag, ao, none⟩) 64 hb) := bytes_chg HB.out HY.out HI.out.chg
      have hbA : Below wr.heap.size wr (wr.alloc (.cells #[.int .u8 0, .int .u8 0, .int .u8 0, .int .u8 0] 93)) := (Below.refl _ _).alloc (Nat.le_refl _) _
      have HbA : Hid (Below wr.heap.size wr ((wr.alloc (.cells #[.int .u8 0, .int .u8 0, .int .u8 0, .int .u8 0] 93)).drewN 1)) := ⟨hbA.os, hbA.tape, hbA.output, hbA.size, hbA.block⟩
      have HrA : Hid (((wr.alloc (.cells #[.int .u8 0, .int .u8 0, .int .u8 0, .int .u8 0] 93)).drewN 1).heap[wr.heap.size]? = some (.cells (vals [0, 0, 0, 0]) 93 (0, 0))) := heap_alloc_new wr _
      have hcut := cut_tail ag ao 64 c (4 * j) (by omega) (by omega)
      obtain ⟨I4, hI4⟩ : ∃ I4 : Int, I4 = ((4 * j : Nat) : Int) := ⟨_, rfl⟩
      rw [← hI4] at hcut
      have hmul : IntKind.i64.wrap ((j : Int) * 4) = I4 := by rw [IntKind.wrap_i64]; omega
      clear hI4
      have hcut2 : ∀ w', (Instr.sliceAt 93 (.pointer (some ⟨wr.heap.size, 0, none⟩)) none none none).run Try.prog w' = .ok (.slice (some ⟨wr.heap.size, 0, none⟩) 4 4) w' := fun w' => by kernel_rfl
      clear hbA
      go_wp2_with fail
      generalize wr.alloc (.cells #[.int .u8 0, .int .u8 0, .int .u8 0, .int .u8 0] 93) = wa at *
      refine wp_region_tail 5 (by kernel_rfl) (by kernel_rfl) ?_
      simp only [List.take_succ_cons, List.take_zero, List.drop_succ_cons, List.drop_zero]
      repeat still_step
      refine wpStill_nil ?_
      generalize wa.drewN 1 = wb at *
      refine wpList_copy_most rfl (.tmp 17) (.tmp 21) rfl wr.heap.size 4 4 _ _ _ rfl rfl [0, 0, 0, 0] _ 93 HrA.out rfl (bytes_tail (HYw.out.later HbA.out) (show 4 * j ≤ 64 by omega)) wr.heap.size wr HbA.out (Nat.le_refl _) ?_
      intro w2 y HR2 hb2
      rw [Hx4.out, List.drop_of_length_le (show ([0, 0, 0, 0] : List Int).length ≤ 64 - 4 * j by simp; omega), List.append_nil] at HR2
      have HI2 : Hid (Pli w g x z hs lb sg tb j w2) := HI.out.on hb2
      have hbk : lb < wr.heap.size := HI.out.ln.lt
      have HtbW : Hid (tb < wr.heap.size) := (Array.getElem?_eq_some_iff.1 HI.out.sp.row).1
      have x0 : w2.cell? ⟨wr.heap.size, 0, none⟩ = some (.int .u8 (B0 : Int)) := by rw [cell_of_row _ _ _ _ 93 (0, 0) HR2.out]; rfl
      have x1 : w2.cell? ⟨wr.heap.size, 1, none⟩ = some (.int .u8 (B1 : Int)) := by rw [cell_of_row _ _ _ _ 93 (0, 0) HR2.out]; rfl
      have x2 : w2.cell? ⟨wr.heap.size, 2, none⟩ = some (.int .u8 (B2 : Int)) := by rw [cell_of_row _ _ _ _ 93 (0, 0) HR2.out]; rfl
      have x3 : w2.cell? ⟨wr.heap.size, 3, none⟩ = some (.int .u8 (B3 : Int)) := by rw [cell_of_row _ _ _ _ 93 (0, 0) HR2.out]; rfl
      have heq := four_eq (B0 : Int) (B1 : Int) (B2 : Int) (B3 : Int)
      clear HR2 hb2 HI HYw HbA HrA Hx4 hcut hcut2 hmul
      by_cases hz : B0 = 0 ∧ B1 = 0 ∧ B2 = 0 ∧ B3 = 0
      · obtain ⟨rfl, rfl, rfl, rfl⟩ := hz
        have hbt : ([((0 : Nat) : Int), ((0 : Nat) : Int), ((0 : Nat) : Int), ((0 : Nat) : Int)] == ([0, 0, 0, 0] : List Int)) = true := by decide
        obtain ⟨hok, htk⟩ := place_zero hjl HI2.out.ok He.out
        have HI3 : Hid (Pli w g x z hs lb sg tb (j + 1) w2) := by
          have hz1 : (hs.map mkS)[j]? = some zS := by rw [List.getElem?_map, List.getElem?_eq_getElem hjl, He.out]; rfl
          have hz2 : (hs.map (fun (h : En) => h.2))[j]? = some 0 := by rw [List.getElem?_map, List.getElem?_eq_getElem hjl, He.out]; rfl
          refine ⟨?_, ?_, HI2.out.rs, by rw [htk]; exact HI2.out.sp, hok, HI2.out.chg⟩
          · have := HI2.out.rg
            rwa [pad_same (by rw [List.length_map]; exact Hhl.out) hz1] at this
          · have := HI2.out.ln
            rwa [pad_same (by rw [List.length_map]; exact Hhl.out) hz2] at this
        have heq0 := four_eq 0 0 0 0
        have hbt0 : (([0, 0, 0, 0] : List Int) == [0, 0, 0, 0]) = true := by decide
        clear HI2 hok htk HPn HPy heq hbt
        go_wp2
        go_roundw
        case rel => exact ⟨j + 1, by omega, by go_num, HI3⟩
        case measure => simp [intOf]; omega
      · have hbt : ([(B0 : Int), (B1 : Int), (B2 : Int), (B3 : Int)] == ([0, 0, 0, 0] : List Int)) = false := by
          simp only [beq_eq_false_iff_ne, ne_eq, List.cons.injEq, and_true]
          omega
        have hb3 : Below w2.heap.size w2 (w2.alloc (.cells #[.int .i64 (B0 : Int), .int .i64 (B1 : Int)] 41)) := (Below.refl _ _).alloc (Nat.le_refl _) _
        have y2 := cell_below x2 hb3
        have y3 := cell_below x3 hb3
        have hwn : wr.heap.size ≠ w2.heap.size := by have := World.block_lt_of_cell? w2 _ x0; simp only at this; omega
        obtain ⟨NN, hNN⟩ : ∃ NN, NN = B2 + 256 * B3 := ⟨_, rfl⟩
        have hor : bits .or .i64 (B2 : Int) ((B3 : Int) * 256) = (NN : Int) := by
          have := or_two B2 B3 hB2 hB3
          rw [← hNN, show ((B3 * 256 : Nat) : Int) = (B3 : Int) * 256 by omega] at this
          exact this
        rw [← hNN] at He
        have hNb : NN < 65536 := by omega
        have Hz : Hid (((B0, B1), NN) ≠ ((0, 0), 0)) := fun h => hz (by
          simp only [Prod.mk.injEq] at h
          omega)
        have Hgen : Hid (∀ k, Pli w g x z hs lb sg tb j ((w2.alloc (.cells #[.int .i64 (B0 : Int), .int .i64 (B1 : Int)] 41)).drewN k)) := fun k => by
          have h := HI2.out.on hb3
          exact ⟨h.rg.keep rfl, h.ln, h.rs, ⟨h.sp.head, h.sp.row, h.sp.ne, h.sp.le, h.sp.few⟩, h.ok, ⟨h.chg.os, h.chg.tape, h.chg.output, h.chg.size, h.chg.block⟩⟩
        have HI3 : Hid (Pli w g x z hs lb sg tb j (w2.alloc (.cells #[.int .i64 (B0 : Int), .int .i64 (B1 : Int)] 41)).drew) := Hgen.out 1
        have hnb := heap_alloc_new w2 (.cells #[.int .i64 (B0 : Int), .int .i64 (B1 : Int)] 41)
        have Hbx : Hid ((w2.alloc (.cells #[.int .i64 (B0 : Int), .int .i64 (B1 : Int)] 41)).drew.cell? ⟨w2.heap.size, 0, none⟩ = some (.int .i64 (B0 : Int)) ∧ (w2.alloc (.cells #[.int .i64 (B0 : Int), .int .i64 (B1 : Int)] 41)).drew.cell? ⟨w2.heap.size, 1, none⟩ = some (.int .i64 (B1 : Int))) := ⟨by show (w2.alloc _).cell? _ = _; rw [cell_of_row _ _ _ _ 41 (0, 0) hnb]; rfl, by show (w2.alloc _).cell? _ = _; rw [cell_of_row _ _ _ _ 41 (0, 0) hnb]; rfl⟩
        have HtbL : Hid (tb < wr.heap.size) := HtbW
        have hbxl : wr.heap.size < w2.heap.size := by have := World.block_lt_of_cell? w2 _ x0; simp only at this; omega
        clear hNN hz Hgen hnb HI2 hb3
        by_cases hn1 : 1 ≤ NN
        · have hn1' : ¬ (NN : Int) < 1 := by omega
          by_cases hm : B1 = needS NN
          · cases hmay : Q.mayB 2 (tkR ((hs.take j).map (·.1))) (B0 : Int) (B1 : Int) false with
            | true =>
              obtain ⟨hok, hdo⟩ := place_ok hjl HI3.out.ok He.out hn1 hm hmay
              have Her : Hid (Q.erS 2 (tkR ((hs.take j).map (·.1))) (B0 : Int) (B1 : Int) false = 0) := by show _ = _; unfold Q.erS; rw [hmay]; rfl
              have Hok : Hid (HdOk (hs.take (j + 1))) := hok
              have Hdo : Hid (Q.doS 2 (tkR ((hs.take j).map (·.1))) (B0 : Int) (B1 : Int) false true = tkR ((hs.take (j + 1)).map (·.1))) := hdo
              have Hm : Hid (B1 = needS NN) := hm
              clear hok hdo hmay hm HPn HPy
              go_wp2_with fail
              clear x0 x1 x2 x3 y2 y3 hor
              generalize (w2.alloc (.cells #[.int .i64 (B0 : Int), .int .i64 (B1 : Int)] 41)) = w3 at *
              obtain ⟨bx, hbx⟩ : ∃ bx, bx = w2.heap.size := ⟨_, rfl⟩
              rw [← hbx] at Hbx hbxl ⊢
              clear hbx
              have Htb : Hid (tb < bx) := Nat.lt_of_lt_of_le HtbL.out (Nat.le_of_lt hbxl)
              refine region_L (fun w' : World => w'.cell? ⟨bx, 0, none⟩ = some (.int .i64 (B0 : Int)) ∧ w'.cell? ⟨bx, 1, none⟩ = some (.int .i64 (B1 : Int))) 15 (by kernel_rfl) ?_
              generalize w3.drew = va at *
              have hHeld : (fun w' : World => w'.cell? ⟨bx, 0, none⟩ = some (.int .i64 (B0 : Int)) ∧ w'.cell? ⟨bx, 1, none⟩ = some (.int .i64 (B1 : Int))) _ := Hbx.out
              have hne : Nonempty (Sub (fun w' : World => w'.cell? ⟨bx, 0, none⟩ = some (.int .i64 (B0 : Int)) ∧ w'.cell? ⟨bx, 1, none⟩ = some (.int .i64 (B1 : Int)))) := ⟨⟨_, hHeld⟩⟩
              have k0 : ∀ s : Sub (fun w' : World => w'.cell? ⟨bx, 0, none⟩ = some (.int .i64 (B0 : Int)) ∧ w'.cell? ⟨bx, 1, none⟩ = some (.int .i64 (B1 : Int))), s.w.cell? ⟨bx, 0, none⟩ = some (.int .i64 (B0 : Int)) := fun s => s.ok.1
              have k1 : ∀ s : Sub (fun w' : World => w'.cell? ⟨bx, 0, none⟩ = some (.int .i64 (B0 : Int)) ∧ w'.cell? ⟨bx, 1, none⟩ = some (.int .i64 (B1 : Int))), s.w.cell? ⟨bx, 1, none⟩ = some (.int .i64 (B1 : Int)) := fun s => s.ok.2
              refine take_N (i := 0) rfl (by kernel_rfl) (by kernel_rfl) (by kernel_rfl) (by rfl) (fun _ _ _ _ h => h) (by exact hHeld) (fun K hK => ?_)
              go_simp
              refine hK _ ?_
              clear hK K
              refine take_N (i := 1) rfl (by kernel_rfl) (by kernel_rfl) (by kernel_rfl) (by rfl) (fun _ _ _ _ h => h) (by exact hHeld) (fun K hK => ?_)
              go_simp
              refine hK _ ?_
              clear hK K
              refine take_N (i := 2) rfl (by kernel_rfl) (by kernel_rfl) (by kernel_rfl) (by rfl) (fun _ _ _ _ h => h) (by exact hHeld) (fun K hK => ?_)
              go_simp
              refine hK _ ?_
              clear hK K
              refine take_N (i := 3) rfl (by kernel_rfl) (by kernel_rfl) (by kernel_rfl) (by rfl) (fun _ _ _ _ h => h) (by exact hHeld) (fun K hK => ?_)
              go_simp
              refine hK _ ?_
              clear hK K
              refine take_N (i := 4) rfl (by kernel_rfl) (by kernel_rfl) (by kernel_rfl) (by rfl) (fun _ _ _ _ h => h) (by exact hHeld) (fun K hK => ?_)
              go_simp
              refine hK _ ?_
              clear hK K
              refine take_N (i := 5) rfl (by kernel_rfl) (by kernel_rfl) (by kernel_rfl) (by rfl) (fun _ _ _ _ h => h) (by exact hHeld) (fun K hK => ?_)
              go_simp
              refine hK _ ?_
              clear hK K
              refine one_L (i := 6) (by kernel_rfl) rfl (fun K hK => ?_)
              go_simp
              refine (need_n NN (by omega) va).mono ?_
              rintro _ vq ⟨rfl, hw⟩
              replace hw := hw.symm
              subst hw
              rw [← Hm.out]
              replace hHeld : (fun w' : World => w'.cell? ⟨bx, 0, none⟩ = some (.int .i64 (B0 : Int)) ∧ w'.cell? ⟨bx, 1, none⟩ = some (.int .i64 (B1 : Int))) _ := hHeld
              refine hK.out _ _ (fun _ => hHeld) ?_
              clear hK K
              refine take_N (i := 7) rfl (by kernel_rfl) (by kernel_rfl) (by kernel_rfl) (by rfl) (fun _ _ _ _ h => h) (by exact hHeld) (fun K hK => ?_)
              go_simp
              refine hK _ ?_
              clear hK K
              refine take_N (i := 8) rfl (by kernel_rfl) (by kernel_rfl) (by kernel_rfl) (by rfl) (fun _ _ _ _ h => h) (by exact hHeld) (fun K hK => ?_)
              go_simp
              refine hK _ ?_
              clear hK K
              refine take_N (i := 9) rfl (by kernel_rfl) (by kernel_rfl) (by kernel_rfl) (by rfl) (fun _ _ _ _ h => h) (by exact hHeld) (fun K hK => ?_)
              go_simp
              refine hK _ ?_
              clear hK K
              refine take_N (i := 10) rfl (by kernel_rfl) (by kernel_rfl) (by kernel_rfl) (by rfl) (fun _ _ _ _ h => h) (by exact hHeld) (fun K hK => ?_)
              go_simp
              refine hK _ ?_
              clear hK K
              refine take_N (i := 11) rfl (by kernel_rfl) (by kernel_rfl) (by kernel_rfl) (by rfl) (fun _ _ _ _ h => h) (by exact hHeld) (fun K hK => ?_)
              go_simp
              refine hK _ ?_
              clear hK K
              refine one_L (i := 12) (by kernel_rfl) rfl (fun K hK => ?_)
              go_simp
              refine (Q.mark_c sg tb 2 _ (B0 : Int) (B1 : Int) ⟨by omega, by omega⟩ ⟨by omega, by omega⟩ va HI3.out.sp).mono ?_
              rintro _ vc ⟨rfl, hSm, hCm⟩
              rw [Her.out]
              replace hHeld : (fun w' : World => w'.cell? ⟨bx, 0, none⟩ = some (.int .i64 (B0 : Int)) ∧ w'.cell? ⟨bx, 1, none⟩ = some (.int .i64 (B1 : Int))) _ := ⟨(World.cell?_of_block (a := ⟨bx, 0, none⟩) (hCm.block bx (World.block_lt_of_cell? va _ hHeld.1) (by have := HI3.out.ln.lt; have := Htb.out; omega))).trans hHeld.1, (World.cell?_of_block (a := ⟨bx, 1, none⟩) (hCm.block bx (World.block_lt_of_cell? va _ hHeld.2) (by have := Htb.out; omega))).trans hHeld.2⟩
              refine hK.out _ _ (fun _ => hHeld) ?_
              clear hK K
              refine take_N (i := 13) rfl (by kernel_rfl) (by kernel_rfl) (by kernel_rfl) (by rfl) (fun _ _ _ _ h => h) (by exact hHeld) (fun K hK => ?_)
              go_simp
              refine hK _ ?_
              clear hK K
              refine take_N (i := 14) rfl (by kernel_rfl) (by kernel_rfl) (by kernel_rfl) (by rfl) (fun _ _ _ _ h => h) (by exact hHeld) (fun K hK => ?_)
              go_simp
              refine hK _ ?_
              clear hK K
              refine done_L (by kernel_rfl) ?_ _
              go_simp
              have hgt : g ≠ tb := by have := HA.out.g; have := HA.out.l; have := HA.out.t; omega
              have hlt2 : lb ≠ tb := by have := HA.out.t; omega
              have hrt : w.heap.size ≠ tb := by have := HA.out.l; have := HA.out.t; omega
              have Hrg : Hid (RB vc g x z ((hs.map mkS).take j ++ List.replicate (16 - j) zS)) := HI3.out.rg.keep (hCm.block g HI3.out.rg.lt hgt)
              have Hln : Hid (LRow vc lb ((hs.map (·.2)).take j ++ List.replicate (16 - j) 0)) := (hCm.block lb HI3.out.ln.lt hlt2).trans HI3.out.ln
              have Hrs : Hid (LRow vc w.heap.size (List.replicate 16 0)) := (hCm.block w.heap.size HI3.out.rs.lt hrt).trans HI3.out.rs
              have Hsp : Hid (Q.PS vc sg tb 2 (tkR ((hs.take (j + 1)).map (·.1)))) := by show Q.PS _ _ _ _ _; rw [← Hdo.out]; exact hSm
              have Hch : Hid (Chg (fun k => k = g) w vc) := HI3.out.chg.trans (Chg.ofQ hCm) (fun k hk => .inr (by rw [hk]; have := HA.out.l; have := HA.out.t; omega))
              have hH2 := hHeld
              clear hHeld hSm hCm HI3 Her Hdo Hm Hbx k0 k1 hne
              go_wp2_with fail
              have hjg : j < ((hs.map mkS).take j ++ List.replicate (16 - j) zS).length := by rw [Hrg.out.n]; exact hlt
              have hjb : j < ((hs.map (fun (h : En) => h.2)).take j ++ List.replicate (16 - j) 0).length := by rw [List.length_append, List.length_take, List.length_map, Hhl.out, List.length_replicate]; omega
              have Hfin : Hid (∀ vd : World, RB vd g x z ((hs.map mkS).take j ++ List.replicate (16 - j) zS) → LRow vd lb ((hs.map (·.2)).take j ++ List.replicate (16 - j) 0) → LRow vd w.heap.size (List.replicate 16 0) → Q.PS vd sg tb 2 (tkR ((hs.take (j + 1)).map (·.1))) → Chg (fun k => k = g) w vd → Pli w g x z hs lb sg tb (j + 1) ((vd.setCells g (2 + j * 3) [.int .i64 (B0 : Int), .int .i64 (B1 : Int)]).setCell ⟨lb, j, none⟩ (.int .i64 (NN : Int)))) := fun vd h1 h2 h3 h4 h5 => by
                have hOa : Only g vd (vd.setCells g (2 + j * 3) [.int .i64 (B0 : Int), .int .i64 (B1 : Int)]) := ((Only.refl g vd).set _ _).set _ _
                have hOb : ∀ v : World, Only lb v (v.setCell ⟨lb, j, none⟩ (.int .i64 (NN : Int))) := fun v => (Only.refl lb v).set _ _
                have hA := HA.out
                have a1 := hA.g
                have a2 := hA.l
                have a3 := hA.s
                have a4 := hA.t
                have hgj : ((hs.map mkS).take j ++ List.replicate (16 - j) zS)[j] = zS := by rw [List.getElem_append_right (by rw [List.length_take, List.length_map]; omega), List.getElem_replicate]
                have hset : RB (vd.setCells g (2 + j * 3) [.int .i64 (B0 : Int), .int .i64 (B1 : Int)]) g x z ((hs.map mkS).take (j + 1) ++ List.replicate (16 - (j + 1)) zS) := by
                  have hb := h1.setAt j B0 B1 hjg
                  rw [hgj] at hb
                  have hz1 : (hs.map mkS)[j]? = some ⟨B0, B1, none, 0, []⟩ := by rw [List.getElem?_map, List.getElem?_eq_getElem hjl, He.out]; rfl
                  rw [← pad_set (by rw [List.length_map]; exact Hhl.out) hz1]
                  exact hb
                have hln : LRow ((vd.setCells g (2 + j * 3) [.int .i64 (B0 : Int), .int .i64 (B1 : Int)]).setCell ⟨lb, j, none⟩ (.int .i64 (NN : Int))) lb ((hs.map (·.2)).take (j + 1) ++ List.replicate (16 - (j + 1)) 0) := by
                  have hb := (show LRow (vd.setCells g (2 + j * 3) [.int .i64 (B0 : Int), .int .i64 (B1 : Int)]) lb _ from (hOa.block lb (by omega)).trans h2).set j NN
                  have hz2 : (hs.map (fun (h : En) => h.2))[j]? = some NN := by rw [List.getElem?_map, List.getElem?_eq_getElem hjl, He.out]; rfl
                  rw [pad_set (by rw [List.length_map]; exact Hhl.out) hz2] at hb
                  exact hb
                refine ⟨hset.keep ((hOb _).block g (by omega)), hln, ((hOb _).block _ (by omega)).trans ((hOa.block _ (by omega)).trans h3), h4.keep (((hOb _).block sg (by omega)).trans (hOa.block sg (by omega))) (((hOb _).block tb (by omega)).trans (hOa.block tb (by omega))), Hok.out, ?_⟩
                exact (h5.trans (Chg.only hOa) (fun k hk => .inl hk)).trans (Chg.only (hOb _)) (fun k hk => .inr (by rw [hk]; omega))
              refine region_L (fun w' : World => w'.cell? ⟨bx, 0, none⟩ = some (.int .i64 (B0 : Int)) ∧ w'.cell? ⟨bx, 1, none⟩ = some (.int .i64 (B1 : Int))) 11 (by kernel_rfl) ?_
              have Hrgd : Hid (RB vc.drew g x z ((hs.map mkS).take j ++ List.replicate (16 - j) zS)) := Hrg.out.keep rfl
              have Hlnd : Hid (LRow vc.drew lb ((hs.map (·.2)).take j ++ List.replicate (16 - j) 0)) := Hln.out
              have Hrsd : Hid (LRow vc.drew w.heap.size (List.replicate 16 0)) := Hrs.out
              have Hspd : Hid (Q.PS vc.drew sg tb 2 (tkR ((hs.take (j + 1)).map (·.1)))) := ⟨Hsp.out.head, Hsp.out.row, Hsp.out.ne, Hsp.out.le, Hsp.out.few⟩
              have Hchd : Hid (Chg (fun k => k = g) w vc.drew) := ⟨Hch.out.os, Hch.out.tape, Hch.out.output, Hch.out.size, Hch.out.block⟩
              have hcd : vc.drew.cell? ⟨bx, 0, none⟩ = some (.int .i64 (B0 : Int)) ∧ vc.drew.cell? ⟨bx, 1, none⟩ = some (.int .i64 (B1 : Int)) := hH2
              clear Hrg Hln Hrs Hsp Hch hH2
              generalize vc.drew = vd at *
              have hHeld : (fun w' : World => w'.cell? ⟨bx, 0, none⟩ = some (.int .i64 (B0 : Int)) ∧ w'.cell? ⟨bx, 1, none⟩ = some (.int .i64 (B1 : Int))) _ := hcd
              have hne : Nonempty (Sub (fun w' : World => w'.cell? ⟨bx, 0, none⟩ = some (.int .i64 (B0 : Int)) ∧ w'.cell? ⟨bx, 1, none⟩ = some (.int .i64 (B1 : Int)))) := ⟨⟨_, hHeld⟩⟩
              have k0 : ∀ s : Sub (fun w' : World => w'.cell? ⟨bx, 0, none⟩ = some (.int .i64 (B0 : Int)) ∧ w'.cell? ⟨bx, 1, none⟩ = some (.int .i64 (B1 : Int))), s.w.cell? ⟨bx, 0, none⟩ = some (.int .i64 (B0 : Int)) := fun s => s.ok.1
              have k1 : ∀ s : Sub (fun w' : World => w'.cell? ⟨bx, 0, none⟩ = some (.int .i64 (B0 : Int)) ∧ w'.cell? ⟨bx, 1, none⟩ = some (.int .i64 (B1 : Int))), s.w.cell? ⟨bx, 1, none⟩ = some (.int .i64 (B1 : Int)) := fun s => s.ok.2
              refine take_L (i := 0) rfl (by kernel_rfl) (by kernel_rfl) (by kernel_rfl) (by kernel_rfl) (fun _ _ _ _ h => h) (by exact hHeld) (fun K hK => ?_)
              go_simp
              refine hK _ ?_
              clear hK K
              refine take_L (i := 1) rfl (by kernel_rfl) (by kernel_rfl) (by kernel_rfl) (by kernel_rfl) (fun _ _ _ _ h => h) (by exact hHeld) (fun K hK => ?_)
              go_simp
              refine hK _ ?_
              clear hK K
              refine take_L (i := 2) rfl (by kernel_rfl) (by kernel_rfl) (by kernel_rfl) (by kernel_rfl) (fun _ _ _ _ h => h) (by exact hHeld) (fun K hK => ?_)
              go_simp
              refine hK _ ?_
              clear hK K
              refine take_L (i := 3) rfl (by kernel_rfl) (by kernel_rfl) (by kernel_rfl) (by kernel_rfl) (fun _ _ _ _ h => h) (by exact hHeld) (fun K hK => ?_)
              go_simp
              refine hK _ ?_
              clear hK K
              refine take_L (i := 4) rfl (by kernel_rfl) (by kernel_rfl) (by kernel_rfl) (by kernel_rfl) (fun _ _ _ _ h => h) (by exact hHeld) (fun K hK => ?_)
              go_simp
              refine hK _ ?_
              clear hK K
              refine take_L (i := 5) rfl (by kernel_rfl) (by kernel_rfl) (by kernel_rfl) (by kernel_rfl) (fun _ _ _ _ h => h) (by exact hHeld) (fun K hK => ?_)
              go_simp
              refine hK _ ?_
              clear hK K
              refine take_L (i := 6) rfl (by kernel_rfl) (by kernel_rfl) (by kernel_rfl) (by kernel_rfl) (fun _ _ _ _ h => h) (by exact hHeld) (fun K hK => ?_)
              go_simp
              refine hK _ ?_
              clear hK K
              refine take_L (i := 7) rfl (by kernel_rfl) (by kernel_rfl) (by kernel_rfl) (by kernel_rfl) (fun _ _ _ _ h => h) (by exact hHeld) (fun K hK => ?_)
              go_simp
              refine hK _ ?_
              clear hK K
              refine take_L (i := 8) rfl (by kernel_rfl) (by kernel_rfl) (by kernel_rfl) (by kernel_rfl) (fun _ _ _ _ h => h) (by exact hHeld) (fun K hK => ?_)
              go_simp
              refine hK _ ?_
              clear hK K
              refine one_L (i := 9) (by kernel_rfl) rfl (fun K hK => ?_)
              refine step_plain rfl (wp_store_mid 41 (.tmp 65) (.tmp 60) rfl g (2 + j * 3) #[.int .i64 (B0 : Int), .int .i64 (B1 : Int)] rfl rfl ?_ (by kernel_rfl) (by simp [Value.oneCell']) ?_)
              · intro i hi
                have hi2 : i < 2 := hi
                refine ⟨?_, Hrgd.out.free _⟩
                rw [Hrgd.out.cell j i hjg (by omega)]
                match i, hi2 with
                | 0, _ => rfl
                | 1, _ => rfl
              have hOa : Only g vd (vd.setCells g (2 + j * 3) [.int .i64 (B0 : Int), .int .i64 (B1 : Int)]) := ((Only.refl g vd).set _ _).set _ _
              have hbxg : bx ≠ g := by have h1 := Hrgd.out.lt; have h2 := HA.out.g; have h3 := HA.out.l; have h4 := hbk; omega
              have hSe : (fun w' : World => w'.cell? ⟨bx, 0, none⟩ = some (.int .i64 (B0 : Int)) ∧ w'.cell? ⟨bx, 1, none⟩ = some (.int .i64 (B1 : Int))) (vd.setCells g (2 + j * 3) [.int .i64 (B0 : Int), .int .i64 (B1 : Int)]) := ⟨(World.cell?_of_block (a := ⟨bx, 0, none⟩) (hOa.block bx hbxg)).trans hHeld.1, (World.cell?_of_block (a := ⟨bx, 1, none⟩) (hOa.block bx hbxg)).trans hHeld.2⟩
              have hle : LRow (vd.setCells g (2 + j * 3) [.int .i64 (B0 : Int), .int .i64 (B1 : Int)]) lb ((hs.map (·.2)).take j ++ List.replicate (16 - j) 0) := (hOa.block lb (by have := HA.out.g; have := HA.out.l; omega)).trans Hlnd.out
              have hq := hle.at (i := j) hjb
              have hfq := hle.free j
              obtain ⟨ve, hve⟩ : ∃ ve, ve = vd.setCells g (2 + j * 3) [.int .i64 (B0 : Int), .int .i64 (B1 : Int)] := ⟨_, rfl⟩
              have Hve : Hid (vd.setCells g (2 + j * 3) [.int .i64 (B0 : Int), .int .i64 (B1 : Int)] = ve) := hve.symm
              rw [Hve.out] at hSe hq hfq
              have hsc : vd.setCells g (2 + j * 3) (#[Value.int .i64 (B0 : Int), .int .i64 (B1 : Int)]).toList = ve := Hve.out
              rw [hsc]
              generalize ((hs.map (fun (h : En) => h.2)).take j ++ List.replicate (16 - j) 0)[j] = o0 at hq
              clear hsc hve hle hOa
              replace hHeld : (fun w' : World => w'.cell? ⟨bx, 0, none⟩ = some (.int .i64 (B0 : Int)) ∧ w'.cell? ⟨bx, 1, none⟩ = some (.int .i64 (B1 : Int))) _ := hSe
              refine hK.out _ _ (fun _ => hHeld) ?_
              clear hK K
              refine take_L (i := 10) rfl (by kernel_rfl) (by kernel_rfl) (by kernel_rfl) (by kernel_rfl) (fun _ _ _ _ h => h) (by exact hHeld) (fun K hK => ?_)
              go_simp
              refine hK _ ?_
              clear hK K
              refine one_L (i := 11) (by kernel_rfl) rfl (fun K hK => ?_)
              go_simp
              refine hK.out _ _ (fun h => absurd rfl h) ?_
              clear hK K
              refine done_L (by kernel_rfl) ?_ _
              have HI5 : Hid (Pli w g x z hs lb sg tb (j + 1) ((vd.setCells g (2 + j * 3) [.int .i64 (B0 : Int), .int .i64 (B1 : Int)]).setCell ⟨lb, j, none⟩ (.int .i64 (NN : Int)))) := Hfin.out vd Hrgd.out Hlnd.out Hrsd.out Hspd.out Hchd.out
              rw [Hve.out] at HI5
              clear Hfin Hrgd Hlnd Hrsd Hspd Hchd Hve
              go_simp
              go_wp2
              go_roundw
              case rel => exact ⟨j + 1, by omega, by go_num, HI5⟩
              case measure => simp [intOf]; omega
            | false =>
              have hbad := place_bad2 hjl He.out Hz.out hmay
              have Her : Hid (Q.erS 2 (tkR ((hs.take j).map (·.1))) (B0 : Int) (B1 : Int) false = 1) := by show _ = _; unfold Q.erS; rw [hmay]; rfl
              have Hm : Hid (B1 = needS NN) := hm
              clear hmay hm HPy
              go_wp2_with fail
              clear x0 x1 x2 x3 y2 y3 hor
              generalize (w2.alloc (.cells #[.int .i64 (B0 : Int), .int .i64 (B1 : Int)] 41)) = w3 at *
              obtain ⟨bx, hbx⟩ : ∃ bx, bx = w2.heap.size := ⟨_, rfl⟩
              rw [← hbx] at Hbx hbxl ⊢
              clear hbx
              have Htb : Hid (tb < bx) := Nat.lt_of_lt_of_le HtbL.out (Nat.le_of_lt hbxl)
              refine region_L (fun w' : World => w'.cell? ⟨bx, 0, none⟩ = some (.int .i64 (B0 : Int)) ∧ w'.cell? ⟨bx, 1, none⟩ = some (.int .i64 (B1 : Int))) 15 (by kernel_rfl) ?_
              generalize w3.drew = va at *
              have hHeld : (fun w' : World => w'.cell? ⟨bx, 0, none⟩ = some (.int .i64 (B0 : Int)) ∧ w'.cell? ⟨bx, 1, none⟩ = some (.int .i64 (B1 : Int))) _ := Hbx.out
              have hne : Nonempty (Sub (fun w' : World => w'.cell? ⟨bx, 0, none⟩ = some (.int .i64 (B0 : Int)) ∧ w'.cell? ⟨bx, 1, none⟩ = some (.int .i64 (B1 : Int)))) := ⟨⟨_, hHeld⟩⟩
              have k0 : ∀ s : Sub (fun w' : World => w'.cell? ⟨bx, 0, none⟩ = some (.int .i64 (B0 : Int)) ∧ w'.cell? ⟨bx, 1, none⟩ = some (.int .i64 (B1 : Int))), s.w.cell? ⟨bx, 0, none⟩ = some (.int .i64 (B0 : Int)) := fun s => s.ok.1
              have k1 : ∀ s : Sub (fun w' : World => w'.cell? ⟨bx, 0, none⟩ = some (.int .i64 (B0 : Int)) ∧ w'.cell? ⟨bx, 1, none⟩ = some (.int .i64 (B1 : Int))), s.w.cell? ⟨bx, 1, none⟩ = some (.int .i64 (B1 : Int)) := fun s => s.ok.2
              refine take_N (i := 0) rfl (by kernel_rfl) (by kernel_rfl) (by kernel_rfl) (by rfl) (fun _ _ _ _ h => h) (by exact hHeld) (fun K hK => ?_)
              go_simp
              refine hK _ ?_
              clear hK K
              refine take_N (i := 1) rfl (by kernel_rfl) (by kernel_rfl) (by kernel_rfl) (by rfl) (fun _ _ _ _ h => h) (by exact hHeld) (fun K hK => ?_)
              go_simp
              refine hK _ ?_
              clear hK K
              refine take_N (i := 2) rfl (by kernel_rfl) (by kernel_rfl) (by kernel_rfl) (by rfl) (fun _ _ _ _ h => h) (by exact hHeld) (fun K hK => ?_)
              go_simp
              refine hK _ ?_
              clear hK K
              refine take_N (i := 3) rfl (by kernel_rfl) (by kernel_rfl) (by kernel_rfl) (by rfl) (fun _ _ _ _ h => h) (by exact hHeld) (fun K hK => ?_)
              go_simp
              refine hK _ ?_
              clear hK K
              refine take_N (i := 4) rfl (by kernel_rfl) (by kernel_rfl) (by kernel_rfl) (by rfl) (fun _ _ _ _ h => h) (by exact hHeld) (fun K hK => ?_)
              go_simp
              refine hK _ ?_
              clear hK K
              refine take_N (i := 5) rfl (by kernel_rfl) (by kernel_rfl) (by kernel_rfl) (by rfl) (fun _ _ _ _ h => h) (by exact hHeld) (fun K hK => ?_)
              go_simp
              refine hK _ ?_
              clear hK K
              refine one_L (i := 6) (by kernel_rfl) rfl (fun K hK => ?_)
              go_simp
              refine (need_n NN (by omega) va).mono ?_
              rintro _ vq ⟨rfl, hw⟩
              replace hw := hw.symm
              subst hw
              rw [← Hm.out]
              replace hHeld : (fun w' : World => w'.cell? ⟨bx, 0, none⟩ = some (.int .i64 (B0 : Int)) ∧ w'.cell? ⟨bx, 1, none⟩ = some (.int .i64 (B1 : Int))) _ := hHeld
              refine hK.out _ _ (fun _ => hHeld) ?_
              clear hK K
              refine take_N (i := 7) rfl (by kernel_rfl) (by kernel_rfl) (by kernel_rfl) (by rfl) (fun _ _ _ _ h => h) (by exact hHeld) (fun K hK => ?_)
              go_simp
              refine hK _ ?_
              clear hK K
              refine take_N (i := 8) rfl (by kernel_rfl) (by kernel_rfl) (by kernel_rfl) (by rfl) (fun _ _ _ _ h => h) (by exact hHeld) (fun K hK => ?_)
              go_simp
              refine hK _ ?_
              clear hK K
              refine take_N (i := 9) rfl (by kernel_rfl) (by kernel_rfl) (by kernel_rfl) (by rfl) (fun _ _ _ _ h => h) (by exact hHeld) (fun K hK => ?_)
              go_simp
              refine hK _ ?_
              clear hK K
              refine take_N (i := 10) rfl (by kernel_rfl) (by kernel_rfl) (by kernel_rfl) (by rfl) (fun _ _ _ _ h => h) (by exact hHeld) (fun K hK => ?_)
              go_simp
              refine hK _ ?_
              clear hK K
              refine take_N (i := 11) rfl (by kernel_rfl) (by kernel_rfl) (by kernel_rfl) (by rfl) (fun _ _ _ _ h => h) (by exact hHeld) (fun K hK => ?_)
              go_simp
              refine hK _ ?_
              clear hK K
              refine one_L (i := 12) (by kernel_rfl) rfl (fun K hK => ?_)
              go_simp
              refine (Q.mark_c sg tb 2 _ (B0 : Int) (B1 : Int) ⟨by omega, by omega⟩ ⟨by omega, by omega⟩ va HI3.out.sp).mono ?_
              rintro _ vc ⟨rfl, hSm, hCm⟩
              rw [Her.out]
              replace hHeld : (fun w' : World => w'.cell? ⟨bx, 0, none⟩ = some (.int .i64 (B0 : Int)) ∧ w'.cell? ⟨bx, 1, none⟩ = some (.int .i64 (B1 : Int))) _ := ⟨(World.cell?_of_block (a := ⟨bx, 0, none⟩) (hCm.block bx (World.block_lt_of_cell? va _ hHeld.1) (by have := HI3.out.ln.lt; have := Htb.out; omega))).trans hHeld.1, (World.cell?_of_block (a := ⟨bx, 1, none⟩) (hCm.block bx (World.block_lt_of_cell? va _ hHeld.2) (by have := Htb.out; omega))).trans hHeld.2⟩
              refine hK.out _ _ (fun _ => hHeld) ?_
              clear hK K
              refine take_N (i := 13) rfl (by kernel_rfl) (by kernel_rfl) (by kernel_rfl) (by rfl) (fun _ _ _ _ h => h) (by exact hHeld) (fun K hK => ?_)
              go_simp
              refine hK _ ?_
              clear hK K
              refine take_N (i := 14) rfl (by kernel_rfl) (by kernel_rfl) (by kernel_rfl) (by rfl) (fun _ _ _ _ h => h) (by exact hHeld) (fun K hK => ?_)
              go_simp
              refine hK _ ?_
              clear hK K
              refine done_L (by kernel_rfl) ?_ _
              go_simp
              have hrs : LRow vc w.heap.size (List.replicate 16 0) := by
                have h1 : w.heap.size ≠ tb := by have := HA.out.l; have := HA.out.t; omega
                exact (hCm.block w.heap.size HI3.out.rs.lt h1).trans HI3.out.rs
              have hch : Chg (fun k => k = g) w vc := HI3.out.chg.trans (Chg.ofQ hCm) (fun k hk => .inr (by rw [hk]; have := HA.out.l; have := HA.out.t; omega))
              go_wp2_with (refine wpList_store_row rfl 76 (.tmp 4) (.tmp 56) rfl w.heap.size _ rfl rfl 76 _ hrs (by kernel_rfl) (by simp [lvals]) (by simp [Value.oneCell']) ?_)
              have hch2 : Chg (fun k => k = g) w (vc.setRow w.heap.size (lvals (List.replicate 16 0)).toArray) := hch.trans (Chg.only (only_setRow w.heap.size vc _)) (fun k hk => .inr (by rw [hk]; exact Nat.le_refl _))
              exact bodyPost_ret (results_row_tmp (p := 4) (u := 5) (ty := 76) rfl _ _ w.heap.size 76 _ (0, 0) _ rfl (setRow_heap vc w.heap.size _ (lvals (List.replicate 16 0)).toArray 76 (0, 0) hrs) Try.underlying76 rfl (by kernel_rfl)) rfl (HPn.out _ hbad hch2)
          · have hbad := place_bad1 hjl He.out Hz.out (fun h => hm h.2)
            have hmb : ¬ (B1 : Int) = (needS NN : Int) := fun h => hm (by omega)
            clear HPy
            go_wp2_with fail
            clear x0 x1 x2 x3 y2 y3 hor
            generalize (w2.alloc (.cells #[.int .i64 (B0 : Int), .int .i64 (B1 : Int)] 41)) = w3 at *
            obtain ⟨bx, hbx⟩ : ∃ bx, bx = w2.heap.size := ⟨_, rfl⟩
            rw [← hbx] at Hbx hbxl ⊢
            clear hbx
            refine region_L (fun w' : World => w'.cell? ⟨bx, 0, none⟩ = some (.int .i64 (B0 : Int)) ∧ w'.cell? ⟨bx, 1, none⟩ = some (.int .i64 (B1 : Int))) 15 (by kernel_rfl) ?_
            generalize w3.drew = vc at *
            have hHeld : (fun w' : World => w'.cell? ⟨bx, 0, none⟩ = some (.int .i64 (B0 : Int)) ∧ w'.cell? ⟨bx, 1, none⟩ = some (.int .i64 (B1 : Int))) _ := Hbx.out
            have hne : Nonempty (Sub (fun w' : World => w'.cell? ⟨bx, 0, none⟩ = some (.int .i64 (B0 : Int)) ∧ w'.cell? ⟨bx, 1, none⟩ = some (.int .i64 (B1 : Int)))) := ⟨⟨_, hHeld⟩⟩
            have k0 : ∀ s : Sub (fun w' : World => w'.cell? ⟨bx, 0, none⟩ = some (.int .i64 (B0 : Int)) ∧ w'.cell? ⟨bx, 1, none⟩ = some (.int .i64 (B1 : Int))), s.w.cell? ⟨bx, 0, none⟩ = some (.int .i64 (B0 : Int)) := fun s => s.ok.1
            have k1 : ∀ s : Sub (fun w' : World => w'.cell? ⟨bx, 0, none⟩ = some (.int .i64 (B0 : Int)) ∧ w'.cell? ⟨bx, 1, none⟩ = some (.int .i64 (B1 : Int))), s.w.cell? ⟨bx, 1, none⟩ = some (.int .i64 (B1 : Int)) := fun s => s.ok.2
            refine take_N (i := 0) rfl (by kernel_rfl) (by kernel_rfl) (by kernel_rfl) (by rfl) (fun _ _ _ _ h => h) (by exact hHeld) (fun K hK => ?_)
            go_simp
            refine hK _ ?_
            clear hK K
            refine take_N (i := 1) rfl (by kernel_rfl) (by kernel_rfl) (by kernel_rfl) (by rfl) (fun _ _ _ _ h => h) (by exact hHeld) (fun K hK => ?_)
            go_simp
            refine hK _ ?_
            clear hK K
            refine take_N (i := 2) rfl (by kernel_rfl) (by kernel_rfl) (by kernel_rfl) (by rfl) (fun _ _ _ _ h => h) (by exact hHeld) (fun K hK => ?_)
            go_simp
            refine hK _ ?_
            clear hK K
            refine take_N (i := 3) rfl (by kernel_rfl) (by kernel_rfl) (by kernel_rfl) (by rfl) (fun _ _ _ _ h => h) (by exact hHeld) (fun K hK => ?_)
            go_simp
            refine hK _ ?_
            clear hK K
            refine take_N (i := 4) rfl (by kernel_rfl) (by kernel_rfl) (by kernel_rfl) (by rfl) (fun _ _ _ _ h => h) (by exact hHeld) (fun K hK => ?_)
            go_simp
            refine hK _ ?_
            clear hK K
            refine take_N (i := 5) rfl (by kernel_rfl) (by kernel_rfl) (by kernel_rfl) (by rfl) (fun _ _ _ _ h => h) (by exact hHeld) (fun K hK => ?_)
            go_simp
            refine hK _ ?_
            clear hK K
            refine one_L (i := 6) (by kernel_rfl) rfl (fun K hK => ?_)
            go_simp
            refine (need_n NN (by omega) vc).mono ?_
            rintro _ vq ⟨rfl, hw⟩
            replace hw := hw.symm
            subst hw
            replace hHeld : (fun w' : World => w'.cell? ⟨bx, 0, none⟩ = some (.int .i64 (B0 : Int)) ∧ w'.cell? ⟨bx, 1, none⟩ = some (.int .i64 (B1 : Int))) _ := hHeld
            refine hK.out _ _ (fun _ => hHeld) ?_
            clear hK K
            refine take_N (i := 7) rfl (by kernel_rfl) (by kernel_rfl) (by kernel_rfl) (by rfl) (fun _ _ _ _ h => h) (by exact hHeld) (fun K hK => ?_)
            go_simp
            refine hK _ ?_
            clear hK K
            refine take_N (i := 8) rfl (by kernel_rfl) (by kernel_rfl) (by kernel_rfl) (by rfl) (fun _ _ _ _ h => h) (by exact hHeld) (fun K hK => ?_)
            go_simp
            refine hK _ ?_
            clear hK K
            refine take_N (i := 9) rfl (by kernel_rfl) (by kernel_rfl) (by kernel_rfl) (by rfl) (fun _ _ _ _ h => h) (by exact hHeld) (fun K hK => ?_)
            go_simp
            refine hK _ ?_
            clear hK K
            refine take_N (i := 10) rfl (by kernel_rfl) (by kernel_rfl) (by kernel_rfl) (by rfl) (fun _ _ _ _ h => h) (by exact hHeld) (fun K hK => ?_)
            go_simp
            refine hK _ ?_
            clear hK K
            refine take_N (i := 11) rfl (by kernel_rfl) (by kernel_rfl) (by kernel_rfl) (by rfl) (fun _ _ _ _ h => h) (by exact hHeld) (fun K hK => ?_)
            go_simp
            refine hK _ ?_
            clear hK K
            refine take_N (i := 12) rfl (by kernel_rfl) (by kernel_rfl) (by kernel_rfl) (by rfl) (fun _ _ _ _ h => h) (by exact hHeld) (fun K hK => ?_)
            go_simp
            refine hK _ ?_
            clear hK K
            refine take_N (i := 13) rfl (by kernel_rfl) (by kernel_rfl) (by kernel_rfl) (by rfl) (fun _ _ _ _ h => h) (by exact hHeld) (fun K hK => ?_)
            go_simp
            refine hK _ ?_
            clear hK K
            refine take_N (i := 14) rfl (by kernel_rfl) (by kernel_rfl) (by kernel_rfl) (by rfl) (fun _ _ _ _ h => h) (by exact hHeld) (fun K hK => ?_)
            go_simp
            refine hK _ ?_
            clear hK K
            refine done_L (by kernel_rfl) ?_ _
            go_simp
            have hrs : LRow vc w.heap.size (List.replicate 16 0) := HI3.out.rs
            have hch : Chg (fun k => k = g) w vc := HI3.out.chg
            go_wp2_with (refine wpList_store_row rfl 76 (.tmp 4) (.tmp 56) rfl w.heap.size _ rfl rfl 76 _ hrs (by kernel_rfl) (by simp [lvals]) (by simp [Value.oneCell']) ?_)
            have hch2 : Chg (fun k => k = g) w (vc.setRow w.heap.size (lvals (List.replicate 16 0)).toArray) := hch.trans (Chg.only (only_setRow w.heap.size vc _)) (fun k hk => .inr (by rw [hk]; exact Nat.le_refl _))
            exact bodyPost_ret (results_row_tmp (p := 4) (u := 5) (ty := 76) rfl _ _ w.heap.size 76 _ (0, 0) _ rfl (setRow_heap vc w.heap.size _ (lvals (List.replicate 16 0)).toArray 76 (0, 0) hrs) Try.underlying76 rfl (by kernel_rfl)) rfl (HPn.out _ hbad hch2)
        · have hbad := place_bad1 hjl He.out Hz.out (fun h => hn1 h.1)
          have hn1' : (NN : Int) < 1 := by omega
          clear HPy
          go_wp2_with fail
          clear x0 x1 x2 x3 y2 y3 hor
          generalize (w2.alloc (.cells #[.int .i64 (B0 : Int), .int .i64 (B1 : Int)] 41)) = w3 at *
          obtain ⟨bx, hbx⟩ : ∃ bx, bx = w2.heap.size := ⟨_, rfl⟩
          rw [← hbx] at Hbx hbxl ⊢
          clear hbx
          refine region_L (fun w' : World => w'.cell? ⟨bx, 0, none⟩ = some (.int .i64 (B0 : Int)) ∧ w'.cell? ⟨bx, 1, none⟩ = some (.int .i64 (B1 : Int))) 15 (by kernel_rfl) ?_
          generalize w3.drew = vc at *
          have hHeld : (fun w' : World => w'.cell? ⟨bx, 0, none⟩ = some (.int .i64 (B0 : Int)) ∧ w'.cell? ⟨bx, 1, none⟩ = some (.int .i64 (B1 : Int))) _ := Hbx.out
          have hne : Nonempty (Sub (fun w' : World => w'.cell? ⟨bx, 0, none⟩ = some (.int .i64 (B0 : Int)) ∧ w'.cell? ⟨bx, 1, none⟩ = some (.int .i64 (B1 : Int)))) := ⟨⟨_, hHeld⟩⟩
          have k0 : ∀ s : Sub (fun w' : World => w'.cell? ⟨bx, 0, none⟩ = some (.int .i64 (B0 : Int)) ∧ w'.cell? ⟨bx, 1, none⟩ = some (.int .i64 (B1 : Int))), s.w.cell? ⟨bx, 0, none⟩ = some (.int .i64 (B0 : Int)) := fun s => s.ok.1
          have k1 : ∀ s : Sub (fun w' : World => w'.cell? ⟨bx, 0, none⟩ = some (.int .i64 (B0 : Int)) ∧ w'.cell? ⟨bx, 1, none⟩ = some (.int .i64 (B1 : Int))), s.w.cell? ⟨bx, 1, none⟩ = some (.int .i64 (B1 : Int)) := fun s => s.ok.2
          refine take_N (i := 0) rfl (by kernel_rfl) (by kernel_rfl) (by kernel_rfl) (by rfl) (fun _ _ _ _ h => h) (by exact hHeld) (fun K hK => ?_)
          go_simp
          refine hK _ ?_
          clear hK K
          refine take_N (i := 1) rfl (by kernel_rfl) (by kernel_rfl) (by kernel_rfl) (by rfl) (fun _ _ _ _ h => h) (by exact hHeld) (fun K hK => ?_)
          go_simp
          refine hK _ ?_
          clear hK K
          refine take_N (i := 2) rfl (by kernel_rfl) (by kernel_rfl) (by kernel_rfl) (by rfl) (fun _ _ _ _ h => h) (by exact hHeld) (fun K hK => ?_)
          go_simp
          refine hK _ ?_
          clear hK K
          refine take_N (i := 3) rfl (by kernel_rfl) (by kernel_rfl) (by kernel_rfl) (by rfl) (fun _ _ _ _ h => h) (by exact hHeld) (fun K hK => ?_)
          go_simp
          refine hK _ ?_
          clear hK K
          refine take_N (i := 4) rfl (by kernel_rfl) (by kernel_rfl) (by kernel_rfl) (by rfl) (fun _ _ _ _ h => h) (by exact hHeld) (fun K hK => ?_)
          go_simp
          refine hK _ ?_
          clear hK K
          refine take_N (i := 5) rfl (by kernel_rfl) (by kernel_rfl) (by kernel_rfl) (by rfl) (fun _ _ _ _ h => h) (by exact hHeld) (fun K hK => ?_)
          go_simp
          refine hK _ ?_
          clear hK K
          refine take_N (i := 6) rfl (by kernel_rfl) (by kernel_rfl) (by kernel_rfl) (by rfl) (fun _ _ _ _ h => h) (by exact hHeld) (fun K hK => ?_)
          go_simp
          refine hK _ ?_
          clear hK K
          refine take_N (i := 7) rfl (by kernel_rfl) (by kernel_rfl) (by kernel_rfl) (by rfl) (fun _ _ _ _ h => h) (by exact hHeld) (fun K hK => ?_)
          go_simp
          refine hK _ ?_
          clear hK K
          refine take_N (i := 8) rfl (by kernel_rfl) (by kernel_rfl) (by kernel_rfl) (by rfl) (fun _ _ _ _ h => h) (by exact hHeld) (fun K hK => ?_)
          go_simp
          refine hK _ ?_
          clear hK K
          refine take_N (i := 9) rfl (by kernel_rfl) (by kernel_rfl) (by kernel_rfl) (by rfl) (fun _ _ _ _ h => h) (by exact hHeld) (fun K hK => ?_)
          go_simp
          refine hK _ ?_
          clear hK K
          refine take_N (i := 10) rfl (by kernel_rfl) (by kernel_rfl) (by kernel_rfl) (by rfl) (fun _ _ _ _ h => h) (by exact hHeld) (fun K hK => ?_)
          go_simp
          refine hK _ ?_
          clear hK K
          refine take_N (i := 11) rfl (by kernel_rfl) (by kernel_rfl) (by kernel_rfl) (by rfl) (fun _ _ _ _ h => h) (by exact hHeld) (fun K hK => ?_)
          go_simp
          refine hK _ ?_
          clear hK K
          refine take_N (i := 12) rfl (by kernel_rfl) (by kernel_rfl) (by kernel_rfl) (by rfl) (fun _ _ _ _ h => h) (by exact hHeld) (fun K hK => ?_)
          go_simp
          refine hK _ ?_
          clear hK K
          refine take_N (i := 13) rfl (by kernel_rfl) (by kernel_rfl) (by kernel_rfl) (by rfl) (fun _ _ _ _ h => h) (by exact hHeld) (fun K hK => ?_)
          go_simp
          refine hK _ ?_
          clear hK K
          refine take_N (i := 14) rfl (by kernel_rfl) (by kernel_rfl) (by kernel_rfl) (by rfl) (fun _ _ _ _ h => h) (by exact hHeld) (fun K hK => ?_)
          go_simp
          refine hK _ ?_
          clear hK K
          refine done_L (by kernel_rfl) ?_ _
          go_simp
          have hrs : LRow vc w.heap.size (List.replicate 16 0) := HI3.out.rs
          have hch : Chg (fun k => k = g) w vc := HI3.out.chg
          go_wp2_with (refine wpList_store_row rfl 76 (.tmp 4) (.tmp 56) rfl w.heap.size _ rfl rfl 76 _ hrs (by kernel_rfl) (by simp [lvals]) (by simp [Value.oneCell']) ?_)
          have hch2 : Chg (fun k => k = g) w (vc.setRow w.heap.size (lvals (List.replicate 16 0)).toArray) := hch.trans (Chg.only (only_setRow w.heap.size vc _)) (fun k hk => .inr (by rw [hk]; exact Nat.le_refl _))
          exact bodyPost_ret (results_row_tmp (p := 4) (u := 5) (ty := 76) rfl _ _ w.heap.size 76 _ (0, 0) _ rfl (setRow_heap vc w.heap.size _ (lvals (List.replicate 16 0)).toArray 76 (0, 0) hrs) Try.underlying76 rfl (by kernel_rfl)) rfl (HPn.out _ hbad hch2)
    · obtain rfl : j = 16 := by omega
      have hge : ¬ ((16 : Nat) : Int) < 16 := by omega
      have hok : HdOk hs := by have := HI.out.ok; rwa [List.take_of_length_le (by rw [Hhl.out]; exact Nat.le_refl _)] at this
      have hrg : RB wr g x z (hs.map mkS) := by have := HI.out.rg; rwa [Nat.sub_self, List.replicate_zero, List.append_nil, List.take_of_length_le (by rw [List.length_map, Hhl.out]; exact Nat.le_refl _)] at this
      have hln : LRow wr lb (hs.map (·.2)) := by have := HI.out.ln; rwa [Nat.sub_self, List.replicate_zero, List.append_nil, List.take_of_length_le (by rw [List.length_map, Hhl.out]; exact Nat.le_refl _)] at this
      obtain ⟨Y, hY⟩ : ∃ Y, Y = (lvals (hs.map (·.2))).toArray := ⟨_, rfl⟩
      have HLw : Hid (wr.heap[lb]? = some (.cells Y 76 (0, 0))) := by show _ = _; rw [hY]; exact hln
      have Hys : Hid (Y.size = 16) := by show _ = _; rw [hY]; simp [lvals]; exact Hhl.out
      have Hyo : Hid (Y.all (·.oneCell') = true) := by show _ = _; rw [hY]; simp [lvals, Value.oneCell']
      have Hrs : Hid (LRow wr w.heap.size (List.replicate 16 0)) := HI.out.rs
      have hch2 : Chg (fun k => k = g) w (wr.setRow w.heap.size Y) := HI.out.chg.trans (Chg.only (only_setRow w.heap.size wr _)) (fun k hk => .inr (by rw [hk]; exact Nat.le_refl _))
      have R := HPy.out (wr.setRow w.heap.size Y) hok hch2 (hrg.keep ((only_setRow w.heap.size wr Y).block g (by omega)))
      rw [← hY] at R
      clear HPn HPy HI hok hrg hln hch2 hY
      go_wp2_with (first
        | (refine wpList_load_row rfl 76 (.tmp 6) rfl lb rfl 76 Y (0, 0) _ HLw.out Try.underlying76 rfl (by rw [Hys.out]; exact size76) ?_)
        | (refine wpList_store_row rfl 76 (.tmp 4) (.tmp 68) rfl w.heap.size Y rfl rfl 76 _ Hrs.out (by rw [Hys.out]; exact size76) (by rw [Hys.out]; simp [lvals]) Hyo.out ?_))
      exact bodyPost_ret (results_row_tmp (p := 4) (u := 5) (ty := 76) rfl _ _ w.heap.size 76 _ (0, 0) _ rfl (setRow_heap wr w.heap.size _ Y 76 (0, 0) Hrs.out) Try.underlying76 rfl (by rw [Hys.out]; exact size76)) rfl R
end Go.Proofs.Ytdjhlpllffakpaa
