/-
  Bytes at the beginning of a block; rows of bytes that are made; the document's Lamps.
-/
import Derived.Test.YtmfjmcaaoljjlaaDoorLbase
set_option maxRecDepth 20000
namespace Go.Proofs.YtmfjmcaaoljjlaaDoor
open C Go.RowKit L

def Pre (w : World) (b : Nat) (t : TypeId) (cs : List Int) : Prop := ∃ cur, w.heap[b]? = some (.cells cur t (0, 0)) ∧ cs.length ≤ cur.size ∧ ∀ k, k < cs.length → cur[k]? = some (.int .u8 (cs.getD k 0))
theorem Pre.lt {w : World} {b : Nat} {t : TypeId} {cs : List Int} (h : Pre w b t cs) : b < w.heap.size := by
  obtain ⟨cur, hc, _⟩ := h
  exact (Array.getElem?_eq_some_iff.1 hc).1
theorem Pre.cell {w : World} {b : Nat} {t : TypeId} {cs : List Int} (h : Pre w b t cs) {k : Nat} (hk : k < cs.length) : w.cell? ⟨b, k, none⟩ = some (.int .u8 (cs.getD k 0)) := by
  obtain ⟨cur, hc, _, he⟩ := h
  rw [cell_of_row w b k cur t (0, 0) hc]
  exact he k hk
theorem Pre.free {w : World} {b : Nat} {t : TypeId} {cs : List Int} (h : Pre w b t cs) (k : Nat) : w.frozen? ⟨b, k, none⟩ = false := by
  obtain ⟨cur, hc, _⟩ := h
  exact frozen_of_row w b k cur t hc
theorem Pre.set {w : World} {b : Nat} {t : TypeId} {cs : List Int} (h : Pre w b t cs) (k : Nat) (x : Int) : Pre (w.setCell ⟨b, k, none⟩ (.int .u8 x)) b t (cs.set k x) := by
  obtain ⟨cur, hc, hl, he⟩ := h
  refine ⟨_, heap_setCell_same w b k _ t _ hc, by rw [List.length_set, Array.size_setIfInBounds]; exact hl, fun j hj => ?_⟩
  rw [List.length_set] at hj
  by_cases e : k = j
  · subst e
    rw [Array.getElem?_setIfInBounds_self_of_lt (by omega), C.getD_set_self cs k x hj]
  · rw [Array.getElem?_setIfInBounds_ne e, C.getD_set_ne cs x e]
    exact he j hj
theorem Pre.below {w w' : World} {b n : Nat} {t : TypeId} {cs : List Int} (h : Pre w b t cs) (hb : Below n w w') (hn : b < n) : Pre w' b t cs := by
  obtain ⟨cur, hc, hr⟩ := h
  exact ⟨cur, (hb.block b hn).trans hc, hr⟩
theorem Pre.other {w : World} {b b' k : Nat} {t : TypeId} {cs : List Int} {v : Value} (h : Pre w b t cs) (hb : b ≠ b') : Pre (w.setCell ⟨b', k, none⟩ v) b t cs := by
  obtain ⟨cur, hc, hr⟩ := h
  exact ⟨cur, (Below.heap_setCell w ⟨b', k, none⟩ v b hb).trans hc, hr⟩
theorem make_n (n : Nat) (hn : n ≤ 1000000) (w : World) : (Instr.makeSlice 22 (.int .i64 (n : Int)) (.int .i64 (n : Int))).run Tryd.prog w = .ok (.slice (some ⟨w.heap.size, 0, none⟩) n n) (w.alloc (.cells (vals (List.replicate n 0)) 5)) := by
  have := run_make_row' (P := Tryd.prog) 22 5 (.int .u8 0) 1 Tryd.underlying22 info5 rfl .i64 .i64 n (by omega) (by omega) w
  rw [made_vals] at this
  exact this
/-- What is known of the first i of n cells. -/
structure Upto (f : Nat → Int) (n i : Nat) (ls : List Int) : Prop where
  len : ls.length = n
  told : ∀ j, j < i → ls.getD j 0 = f j
  rest : ∀ j, i ≤ j → ls.getD j 0 = 0
theorem Upto.start (f : Nat → Int) (n : Nat) : Upto f n 0 (List.replicate n 0) :=
  ⟨List.length_replicate, fun j h => by omega, fun j _ => by
    rcases Nat.lt_or_ge j n with h | h
    · exact getD_replicate n j 0 h
    · rw [List.getD_eq_getElem?_getD, List.getElem?_eq_none (by simpa using h)]; rfl⟩
theorem Upto.next {f : Nat → Int} {n i : Nat} {ls : List Int} (h : Upto f n i ls) (hi : i < n) : Upto f n (i + 1) (ls.set i (f i)) := by
  refine ⟨by rw [List.length_set, h.len], fun j hj => ?_, fun j hj => ?_⟩
  · by_cases e : i = j
    · subst e; exact C.getD_set_self ls i (f i) (by rw [h.len]; exact hi)
    · rw [C.getD_set_ne ls (f i) e]; exact h.told j (by omega)
  · rw [C.getD_set_ne ls (f i) (by omega)]; exact h.rest j (by omega)
set_option maxHeartbeats 1000000 in
theorem rlamps_c (g kb n cap : Nat) (W D T : Int) (ks : List Int) (w : World) (hF : Fd w g W D T (.slice (some ⟨kb, 0, none⟩) n cap)) (hK : Pre w kb 5 ks) (hl : ks.length = n) (hk : Kinds ks) (hn : n ≤ 1000000) :
    Calls Tryd.prog 25 #[.pointer (some ⟨g, 0, none⟩)] w fun e w' => ∃ g' ls, e = .returned (.slice (some ⟨g', 0, none⟩) n n) ∧ w.heap.size ≤ g' ∧ Blk w' g' 5 ls ∧ Upto (fun j => (emitsK (ks.getD j 0) : Int)) n n ls ∧ Below w.heap.size w w' := by
  obtain ⟨Post, hPost⟩ : ∃ Post : Ending → World → Prop, Post = fun e w' => ∃ g' ls, e = .returned (.slice (some ⟨g', 0, none⟩) n n) ∧ w.heap.size ≤ g' ∧ Blk w' g' 5 ls ∧ Upto (fun j => (emitsK (ks.getD j 0) : Int)) n n ls ∧ Below w.heap.size w w' := ⟨_, rfl⟩
  rw [← hPost]
  have HP : Hid (∀ ls w', Blk w' w.heap.size 5 ls → Upto (fun j => (emitsK (ks.getD j 0) : Int)) n n ls → Below w.heap.size w w' → Post (.returned (.slice (some ⟨w.heap.size, 0, none⟩) n n)) w') := fun ls w' h1 h2 h3 => by rw [hPost]; exact ⟨_, ls, rfl, Nat.le_refl _, h1, h2, h3⟩
  clear hPost
  have c3 := hF.c3
  have hmk := make_n n hn w
  have HF : Hid (Fd w g W D T (.slice (some ⟨kb, 0, none⟩) n cap) ∧ Pre w kb 5 ks) := ⟨hF, hK⟩
  have HW : Hid (Blk (w.alloc (.cells (vals (List.replicate n 0)) 5)) w.heap.size 5 (List.replicate n 0) ∧ Below w.heap.size w (w.alloc (.cells (vals (List.replicate n 0)) 5))) := ⟨Blk.new w 5 _, (Below.refl _ _).alloc (Nat.le_refl _) _⟩
  have HU : Hid (Upto (fun j => (emitsK (ks.getD j 0) : Int)) n 0 (List.replicate n 0)) := Upto.start _ n
  clear hF hK
  generalize List.replicate n (0 : Int) = Z at *
  generalize w.alloc (.cells (vals Z) 5) = W1 at *
  go_enter Tryd.func25, Tryd.ntmps25
  go_wp2
  clear hmk c3
  go_loopw [4] (fun vi wr => ∃ i : Nat, i ≤ n ∧ vi = .int .i64 (i : Int) ∧ Hid (∃ ls, Blk wr w.heap.size 5 ls ∧ Upto (fun j => (emitsK (ks.getD j 0) : Int)) n i ls) ∧ Hid (Below w.heap.size w wr)) (fun vi _ => n - (intOf vi).toNat)
  case atStart => exact ⟨0, by omega, rfl, ⟨Z, HW.out.1, HU.out⟩, HW.out.2⟩
  case round =>
    clear HW HU
    obtain ⟨i, hi, rfl, HZ, HB⟩ := hrel
    by_cases hlt : i < n
    case neg =>
      obtain rfl : i = n := by omega
      have hge : ¬ (i : Int) < (i : Int) := by omega
      obtain ⟨ls, h1, h2⟩ := HZ.out
      have R := HP.out ls wr h1 h2 HB.out
      clear HZ HB HP h1 h2
      go_wp2
      exact R
    have hlt' : (i : Int) < (n : Int) := by omega
    obtain ⟨ls, hB, hU⟩ := HZ.out
    have c3 := (HF.out.1.on HB.out).c3
    have ck := (HF.out.2.below HB.out HF.out.2.lt).cell (k := i) (by omega)
    have hkb := hk.at i
    have hem := remits_c (ks.getD i 0) hkb
    have hle := emits_le (ks.getD i 0)
    have cl := hB.cell (k := i) (by rw [hU.len]; exact hlt)
    have fl := hB.free i
    have HN : Hid (Blk (wr.setCell ⟨w.heap.size, i, none⟩ (.int .u8 (emitsK (ks.getD i 0) : Nat))) w.heap.size 5 (ls.set i (emitsK (ks.getD i 0) : Nat)) ∧ Upto (fun j => (emitsK (ks.getD j 0) : Int)) n (i + 1) (ls.set i (emitsK (ks.getD i 0) : Nat)) ∧ Below w.heap.size w (wr.setCell ⟨w.heap.size, i, none⟩ (.int .u8 (emitsK (ks.getD i 0) : Nat)))) :=
      ⟨hB.set i _, hU.next hlt, HB.out.setCell (p := ⟨w.heap.size, i, none⟩) (Nat.le_refl _) _⟩
    obtain ⟨hk0, hk1⟩ := hkb
    generalize (ks.getD i 0) = kk at *
    generalize emitsK kk = em at *
    clear HZ HB hB hU HP
    go_wp2_with fail
    refine (hem _).mono ?_
    rintro _ w5 ⟨rfl, hw⟩
    replace hw := hw.symm
    subst hw
    clear hem
    go_wp2
    exact ⟨⟨i + 1, by omega, by simp, ⟨_, HN.out.1, HN.out.2.1⟩, HN.out.2.2⟩, by simp [intOf]; omega⟩
end Go.Proofs.YtmfjmcaaoljjlaaDoor
