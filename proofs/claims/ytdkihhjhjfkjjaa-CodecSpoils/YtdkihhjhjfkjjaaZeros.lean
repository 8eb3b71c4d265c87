/-
  Noughts behind bytes that a call has gathered: 'append(b, make([]byte, k)...)'.
-/
import Derived.Test.YtdkihhjhjfkjjaaOwns
import Derived.Lib.AppendZerosOnto
namespace Go.Proofs.Ytdkihhjhjfkjjaa
open Go.RowKit

theorem zeroCells_u8 (k : Nat) : Builtin.zeroCells (Value.int .u8 0).cells k = (List.replicate k (Value.int .u8 0)).toArray := by
  have h : (Value.int .u8 0).cells = #[Value.int .u8 0] := rfl
  rw [h]
  unfold Builtin.zeroCells
  apply Array.ext
  · simp
  · intro i h1 h2
    simp [Nat.mod_one]
theorem run_append_room_zeros (w : World) (ty : TypeId) (i : TypeInfo) (hi : Try.prog.info? 5 = some i) (hz : i.zero = some (.int .u8 0)) (hs1 : i.size = 1) (hby : i.bytes = 1) (g sLen sCap : Nat) (cur : Array Value) (hg : w.heap[g]? = some (.cells cur 5 (0, 0))) (k : Nat) (h0 : 0 < k) (hk : k ≤ 1000)
    (hroom : sLen + k ≤ sCap) (hfit : sLen + k ≤ cur.size) :
    (Builtin.append_ #[25, 3] ty #[.slice (some ⟨g, 0, none⟩) sLen sCap, .int .i64 (k : Int)]).run Try.prog w =
      .ok (.slice (some ⟨g, 0, none⟩) (sLen + k) sCap) (w.setRow g (cur.toList.take sLen ++ List.replicate k (Value.int .u8 0) ++ cur.toList.drop (sLen + k)).toArray) := by
  have hst := run_storeCells_at Try.prog g sLen 5 (List.replicate k (Value.int .u8 0)) 0 cur w hg (by simpa using hfit) (fun v hv => by rw [List.eq_of_mem_replicate hv]; rfl)
  simp only [Nat.add_zero, List.length_replicate] at hst
  have hw : IntKind.i64.wrap (k : Int) = k := by rw [IntKind.wrap_i64]; omega
  have hneg : ¬ ((k : Int) < 0) := by omega
  have h48i : ¬ (281474976710656 < (k : Int)) := by omega
  have hkz : ¬ k = 0 := by omega
  have hzc := zeroCells_u8 k
  simp [Builtin.append_, run_underlying Try.underlying25, run_underlying Try.underlying3, sizeOf, typeInfo, zeroValue, hi, hz, hs1, hby, asInt, asIntOf, hw, hneg, h48i, hkz, hroom, Addr.add_lit, hzc, hst]
/-- The law: what a call has gathered, and k noughts behind it. -/
theorem wpList_append_zeros {w : World} {ops : Array Oper} {rest : List Oper} {o : Oper} {a : Act} {Q : Exit → Act → World → Prop} (hgd : o.guard = none) (s x : Operand)
    (ho : o.op = .call { callee := .builtin .append, args := #[s, x], argTypes := #[25, 3] }) (B g n cv : Nat) (ys : List Int) (hn : ys.length = n) (hs : a.eval s = .slice (some ⟨g, 0, none⟩) n cv) (hown : Own w B (some ⟨g, 0, none⟩) cv ys)
    (k : Nat) (hx : a.eval x = .int .i64 (k : Int)) (h0 : 0 < k) (hk : k ≤ 1000) (hle : n ≤ 1000000) (w0 : World) (hb : Below B w0 w) (hB : B ≤ w.heap.size)
    (h : ∀ a' c' w', Hid (Own w' B a' c' (ys ++ List.replicate k 0)) → Below B w0 w' → B ≤ w'.heap.size → wpList Try.prog ops Q rest (a.put o.dst (.slice a' (n + k) c')) w') : wpList Try.prog ops Q (o :: rest) a w := by
  obtain ⟨i, hi, hz0, hz1, hz2⟩ := info_parts Try.info5
  subst hn
  refine wpList_plain hgd fun K hK => ?_
  have hrep : (List.replicate k (0 : Int)).map (Value.int .u8) = List.replicate k (Value.int .u8 0) := by rw [List.map_replicate]
  have key : ∃ a' c' w', (Builtin.append_ #[25, 3] o.type #[.slice (some ⟨g, 0, none⟩) ys.length cv, .int .i64 (k : Int)]).run Try.prog w = .ok (.slice a' (ys.length + k) c') w' ∧ Own w' B a' c' (ys ++ List.replicate k 0) ∧ w.grownBy w' (some g) := by
    rcases hown.2 with ⟨hv, _⟩ | ⟨g', cap, cur, hv, hbg, hg, hnc, hcm, hcs, htake⟩
    · cases hv
    · cases hv
      rw [Nat.mul_one] at hcs htake
      by_cases hroom : ys.length + k ≤ cv
      · refine ⟨_, _, _, run_append_room_zeros w o.type i hi hz0 hz1 hz2 g ys.length cv cur hg k h0 hk hroom (by omega), ?_, ⟨rfl, rfl, rfl, by simp, fun j _ hj => setRow_other w g j _ (fun e => hj (by simp [e]))⟩⟩
        unfold Own
        rw [List.map_append, hrep, List.length_append, List.length_replicate]
        refine ⟨by simp, .inr ⟨g, cv, _, rfl, hbg, setRow_heap w g cur _ 5 _ hg, hroom, hcm, ?_, ?_⟩⟩
        · simp only [List.size_toArray, List.length_append, List.length_take, List.length_drop, Array.length_toList, List.length_replicate]
          omega
        · rw [htake, Nat.mul_one]
          have hl : (ys.map (Value.int .u8) ++ List.replicate k (Value.int .u8 0)).length = ys.length + k := by simp
          rw [← hl]
          exact List.take_left
      · have holds : ∀ j u, (ys.map (Value.int .u8))[j]? = some u → w.cell? ((⟨g, 0, none⟩ : Addr).add j) = some u := World.ownsRow.cells (g := g) hown rfl
        have hfo := run_firstCells_some (P := Try.prog) w.drew i.size ys.length ⟨g, 0, none⟩ ys.length cv (ys.map (Value.int .u8)) (by rw [hz1]; simp) (by simpa using holds)
        have hr := Lib.run_append_grow_zeros (P := Try.prog) w 25 3 o.type 5 i (.int .u8 0) .i64 .i64 Try.underlying25 Try.underlying3 hi hz0 (some ⟨g, 0, none⟩) ys.length cv (ys.map (Value.int .u8)) hfo k h0 (by omega) (by omega) (by omega) (by rw [hz2]; omega) (by rw [hz2]; exact growslice_fits (by omega) (by omega))
        have hge := grownCap_ge w (ys.length + k) cv 5
        have hcm2 : grownCap w (ys.length + k) cv 5 ≤ maxLen := grownCap_le_maxLen w (ys.length + k) cv 5 (by unfold maxLen; omega)
        refine ⟨_, _, _, hr, ?_, ⟨rfl, rfl, rfl, by simp, fun j hj _ => heap_alloc_old w.drew _ hj⟩⟩
        unfold Own
        rw [List.map_append, hrep, List.length_append, List.length_replicate]
        refine ⟨by simp, .inr ⟨w.heap.size, _, _, rfl, hB, heap_alloc_new w.drew _, hge, hcm2, ?_, ?_⟩⟩
        · simp only [Array.size_append, List.size_toArray, zeroCells_u8, List.length_map, List.length_replicate]
          omega
        · simp only [Array.toList_append, zeroCells_u8]
          have hl : (ys.map (Value.int .u8) ++ List.replicate k (Value.int .u8 0)).length = (ys.length + k) * 1 := by simp
          rw [← hl]
          exact List.take_left
  obtain ⟨a', c', w', hr, h2, h3⟩ := key
  unfold Oper.wp execOp
  simp only [ho, resolve, invoke, builtin, Sem.run_bind, Sem.run_pure, Result.andThen_ok, List.map_toArray, List.map_cons, List.map_nil, hs, hx, hr]
  have hb' : Below B w0 w' := hb.grown h3 hB (fun j hj => by cases hj; rcases hown.2 with ⟨hv, _⟩ | ⟨g', cap, cur, hv, hbg, _⟩ <;> cases hv; exact hbg)
  exact hK _ _ (h a' c' w' h2 hb' (Nat.le_trans hB h3.size))
end Go.Proofs.Ytdkihhjhjfkjjaa
