/-
  The document's Nine: the field of nine chunks.
-/
import Derived.Test.YtjeapaojbkicmabDoorLheld
import Derived.Test.YtjeapaojbkicmabDoorLlamp
import Derived.Test.YtjeapaojbkicmabDoorLLaws
set_option maxRecDepth 20000
namespace Go.Proofs.YtjeapaojbkicmabDoor
open C Go.RowKit L

/-- Nine rows of kinds in memory. -/
structure Nr (w : World) (gn : Nat) (ga gc : Nat → Nat) (css : List (List Int)) : Prop where
  out : ∀ j, j < 9 → w.cell? ⟨gn, j, none⟩ = some (.slice (some ⟨ga j, 0, none⟩) 32768 (gc j))
  cap : ∀ j, j < 9 → 32768 ≤ gc j
  row : ∀ j, j < 9 → Pre w (ga j) 5 (css.getD j [])
  len : ∀ j, j < 9 → (css.getD j []).length = 32768
theorem Nr.on {w w' : World} {gn : Nat} {ga gc : Nat → Nat} {css : List (List Int)} (h : Nr w gn ga gc css) (hb : Below w.heap.size w w') : Nr w' gn ga gc css :=
  ⟨fun j hj => cell_below (h.out j hj) hb, h.cap, fun j hj => (h.row j hj).below hb (h.row j hj).lt, h.len⟩
def bvs (xs : List Int) : List Value := xs.map (Value.int .u8)
def OwnB (w : World) (lo : Nat) (a : Option Addr) (c : Nat) (xs : List Int) : Prop := w.ownsRow lo 5 1 (.slice a xs.length c) xs.length (bvs xs)
theorem wpList_append_bs {w : World} {ops : Array Oper} {rest : List Oper} {o : Oper} {a : Act} {Q : Exit → Act → World → Prop} (hgd : o.guard = none) (s x : Operand)
    (ho : o.op = .call { callee := .builtin .append, args := #[s, x], argTypes := #[28, 28] }) (B : Nat) (av : Option Addr) (n cv : Nat) (L : List Int) (hn : L.length = n) (hs : a.eval s = .slice av n cv) (hown : OwnB w B av cv L)
    (g off c : Nat) (ys : List Int) (hy : ys.length = 16) (hx : a.eval x = .slice (some ⟨g, off, none⟩) 16 c) (hnews : ∀ j, j < 16 → w.cell? ⟨g, off + j, none⟩ = some (.int .u8 (ys.getD j 0))) (hle : n ≤ 100000000) (hB : B ≤ w.heap.size)
    (h : ∀ a' c' w', Hid (OwnB w' B a' c' (L ++ ys)) → w.grownBy w' (Value.ownBlock (.slice av n cv)) → wpList Tryd.prog ops Q rest (a.put o.dst (.slice a' (n + 16) c')) w') : wpList Tryd.prog ops Q (o :: rest) a w := by
  obtain ⟨i, hi, hz0, hz1, hz2⟩ := info_parts C.info5
  subst hn
  refine wpList_append_own_at w hgd s x 28 ho B 5 i _ 1 1 Tryd.underlying28 hi hz0 hz1 hz2 rfl (by decide) _ _ _ hs hown ⟨g, off, none⟩ 16 c (bvs ys) hx (by simp [bvs, hy]) (fun j u hj => ?_) (by simp [bvs, Value.oneCell']) (by unfold maxLen; omega) (by omega) hB ?_
  · unfold bvs at hj
    rw [List.getElem?_map] at hj
    obtain ⟨v, hv, rfl⟩ := Option.map_eq_some_iff.1 hj
    have hjl := (List.getElem?_eq_some_iff.1 hv).1
    rw [Addr.add_mid, hnews j (by omega), List.getD_eq_getElem?_getD, hv]
    rfl
  intro v' w' h1 h2 _ _
  have e : ∃ a' c', v' = .slice a' (L.length + 16) c' := by
    rcases h1.2 with ⟨hv, hn⟩ | ⟨g, cap, _, hv, _⟩
    · omega
    · exact ⟨_, _, hv⟩
  obtain ⟨a', c', rfl⟩ := e
  refine h a' c' w' ?_ h2
  show OwnB _ _ _ _ _
  unfold OwnB bvs
  rw [List.length_append, hy, List.map_append]
  exact h1
theorem sizeOf5L (w : World) : (sizeOf 5).run Tryd.prog w = .ok 1 w := by kernel_rfl
theorem slice_at (b n c k : Nat) (h1 : k + 16 ≤ n) (h2 : n ≤ c) : ∀ w, (Instr.sliceAt 28 (.slice (some ⟨b, 0, none⟩) n c) (some (.int .i64 (k : Int))) (some (.int .i64 ((k : Int) + 16))) none).run Tryd.prog w = .ok (.slice (some ⟨b, k, none⟩) 16 (c - k)) w := fun w => by
  rw [run_sliceAt_slice w 28 _ _ _ _ (by kernel_rfl), run_slice_lh w 28 (some ⟨b, 0, none⟩) n c (by kernel_rfl) .i64 .i64 k (k + 16) (by omega) (by omega) (by omega), show Tryd.prog.elem 28 = 5 by kernel_rfl, sizeOf5L, Result.andThen_ok]
  unfold sliced
  by_cases hc : c - k = 0
  · omega
  rw [if_neg (by omega), show ((k : Int) + 16).toNat - (k : Int).toNat = 16 by omega, show (k : Int).toNat = k by omega]
  show Result.ok (Value.slice (some ((⟨b, 0, none⟩ : Addr).add (k * 1))) 16 (c - k)) w = _
  rw [Addr.add_mid, Nat.mul_one, Nat.zero_add]
/-- The first m times sixteen kinds. -/
def nb (css : List (List Int)) (m : Nat) : List Int := (List.range (16 * m)).map (kAt css)
theorem nb_len (css : List (List Int)) (m : Nat) : (nb css m).length = 16 * m := by simp [nb]
theorem nb_next (css : List (List Int)) {y z x : Nat} (hz : z < 48) (hx : x < 3) : nb css ((y * 48 + z) * 3 + x + 1) = nb css ((y * 48 + z) * 3 + x) ++ (List.range 16).map (fun t => (css.getD (z / 16 * 3 + x) []).getD (y * 256 + z % 16 * 16 + t) 0) := by
  unfold nb
  rw [show 16 * ((y * 48 + z) * 3 + x + 1) = 16 * ((y * 48 + z) * 3 + x) + 16 by omega, List.range_add, List.map_append, List.map_map]
  congr 1
  refine List.map_congr_left fun t ht => ?_
  have ht := List.mem_range.1 ht
  show kAt css (16 * ((y * 48 + z) * 3 + x) + t) = _
  rw [show 16 * ((y * 48 + z) * 3 + x) + t = (y * 48 + z) * 48 + (16 * x + t) by omega, kAt_of css (by omega) hz, show (16 * x + t) / 16 = x by omega, show (16 * x + t) % 16 = t by omega]
attribute [local go_sem] Oper.semAt_some
end Go.Proofs.YtjeapaojbkicmabDoor
