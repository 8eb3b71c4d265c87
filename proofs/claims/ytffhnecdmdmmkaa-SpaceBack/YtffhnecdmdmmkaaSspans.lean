/-
  The document's space: Spans.
-/
import Derived.Test.YtffhnecdmdmmkaaStake
import Derived.Laws.OwnMore
import Derived.Deep.AppendLies
set_option maxRecDepth 20000
namespace Go.Proofs.Ytffhnecdmdmmkaa
open Go.RowKit

def spc (x : Sp) : List Value := [.int .i64 (x.1 : Int), .int .i64 (x.2 : Int)]
def spCells (l : List Sp) : List Value := l.flatMap spc
theorem spCells_snoc (l : List Sp) (x : Sp) : spCells (l ++ [x]) = spCells l ++ spc x := by
  unfold spCells
  rw [List.flatMap_append]
  simp
theorem spCells_len (l : List Sp) : (spCells l).length = l.length * 2 := by
  induction l with
  | nil => rfl
  | cons x r ih =>
    show (spc x ++ spCells r).length = _
    rw [List.length_append, ih, List.length_cons]
    simp only [spc, List.length_cons, List.length_nil]
    omega
theorem spCells_at : ∀ (l : List Sp) (k : Nat) (h : k < l.length), (spCells l)[k * 2]? = some (.int .i64 (l[k].1 : Int)) ∧ (spCells l)[k * 2 + 1]? = some (.int .i64 (l[k].2 : Int))
  | [], k, h => absurd h (Nat.not_lt_zero _)
  | x :: r, 0, _ => ⟨rfl, rfl⟩
  | x :: r, k + 1, h => by
    have ih := spCells_at r k (by simpa using h)
    have e : spCells (x :: r) = spc x ++ spCells r := rfl
    rw [e, List.getElem?_append_right (by simp [spc]; omega), List.getElem?_append_right (by simp [spc]; omega), show (k + 1) * 2 - (spc x).length = k * 2 by simp [spc]; omega, show (k + 1) * 2 + 1 - (spc x).length = k * 2 + 1 by simp [spc]; omega]
    simpa using ih
/-- Spans in a row of one's own. -/
def OwnSp (w : World) (lo : Nat) (a : Option Addr) (c : Nat) (l : List Sp) : Prop := w.ownsRow lo 34 2 (.slice a l.length c) l.length (spCells l)
theorem info34 : (Try.prog.info? 34).map (fun i => (i.zero, i.size, i.bytes)) = some (some (.agg #[.int .i64 0, .int .i64 0]), 2, 16) := by kernel_rfl
theorem spTo_len (h : Nat) (T : List Bool) : ∀ j, (spTo h T j).length ≤ j
  | 0 => Nat.le_refl _
  | j + 1 => by
    have ih := spTo_len h T j
    rw [spTo]
    split
    · omega
    · unfold addS
      split
      · rename_i hl
        split
        · have := last_split hl
          have h2 := congrArg List.length this
          simp only [List.length_append, List.length_cons, List.length_nil] at h2 ⊢
          omega
        · simp only [List.length_append, List.length_cons, List.length_nil]
          omega
      · simp only [List.length_cons, List.length_nil]
        omega
/-- One more span is appended. -/
theorem wpList_append_sp {w : World} {ops : Array Oper} {rest : List Oper} {o : Oper} {a : Act} {Q : Exit → Act → World → Prop} (hgd : o.guard = none) (s x : Operand)
    (ho : o.op = .call { callee := .builtin .append, args := #[s, x], argTypes := #[40, 40] }) (B : Nat) (av : Option Addr) (n cv : Nat) (L : List Sp) (hn : L.length = n) (hs : a.eval s = .slice av n cv) (hown : OwnSp w B av cv L)
    (ad : Addr) (y : Sp) (hx : a.eval x = .slice (some ad) 1 1) (hnews : ∀ j u, (spc y)[j]? = some u → w.cell? (ad.add j) = some u) (hle : n ≤ 10000) (w0 : World) (hb : Below B w0 w) (hB : B ≤ w.heap.size)
    (h : ∀ a' c' w', Hid (OwnSp w' B a' c' (L ++ [y])) → Below B w0 w' → wpList Try.prog ops Q rest (a.put o.dst (.slice a' (n + 1) c')) w') : wpList Try.prog ops Q (o :: rest) a w := by
  obtain ⟨i, hi, hz0, hz1, hz2⟩ := info_parts info34
  subst hn
  refine wpList_append_own w hgd s x 40 ho B 34 i _ 2 16 Try.underlying40 hi hz0 hz1 hz2 rfl (by decide) _ _ _ hs hown ad 1 1 (spc y) hx rfl hnews (by simp [spc, Value.oneCell']) (by unfold maxLen; omega) (by omega) hB ?_
  intro v' w' h1 h2 _
  have hb' : Below B w0 w' := hb.grown h2 hB (fun k hk => (World.ownsRow.lt hown k hk).1)
  have e : ∃ a' c', v' = .slice a' (L.length + 1) c' := by
    rcases h1.2 with ⟨hv, hn⟩ | ⟨g, cap, _, hv, _⟩
    · omega
    · exact ⟨_, _, hv⟩
  obtain ⟨a', c', rfl⟩ := e
  refine h a' c' w' ?_ hb'
  show OwnSp _ _ _ _ _
  unfold OwnSp
  rw [List.length_append, spCells_snoc]
  exact h1
def RSpansSay (h : Nat) (T : List Bool) (w : World) (e : Ending) (w' : World) : Prop := Below w.heap.size w w' ∧ ∃ a c, e = .returned (.slice a (spansS h T).length c) ∧ OwnSp w' w.heap.size a c (spansS h T)
set_option maxHeartbeats 1000000 in
theorem rspans_c (g tb h : Nat) (T : List Bool) (w : World) (H : RS w g tb h T) : Calls Try.prog 21 #[.pointer (some ⟨g, 0, none⟩)] w (RSpansSay h T w) := by
  obtain ⟨Post, hPost⟩ : ∃ Post, Post = RSpansSay h T w := ⟨_, rfl⟩
  rw [← hPost]
  have HP : Hid (∀ w' a m c L, L = spansS h T → L.length = m → OwnSp w' w.heap.size a c L → Below w.heap.size w w' → Post (.returned (.slice a m c)) w') := fun w' a m c L h1 h2 h3 h4 => by rw [hPost]; subst h1; subst h2; exact ⟨h4, a, c, rfl, h3⟩
  clear hPost
  have HR0 : Hid (RS w g tb h T) := H
  have hl := H.le
  have hfew := H.few
  obtain ⟨c0, c1⟩ := H.cells
  obtain ⟨N, hN⟩ : ∃ N, N = T.length := ⟨_, rfl⟩
  rw [← hN] at hl hfew c1
  have HN : Hid (T.length = N) := hN.symm
  clear H hN
  obtain ⟨i34, hi34, hz0, hz1, hz2⟩ := info_parts info34
  go_enter Try.func21, Try.ntmps21
  go_wp2_with fail
  go_loopw [3, 4] (fun v3 v4 wr => ∃ (j : Nat) (a' : Option Addr) (m c' : Nat), h + j ≤ N ∧ v4 = .int .i64 ((h : Int) + j) ∧ v3 = .slice a' m c' ∧ Hid ((spTo h T j).length = m ∧ OwnSp wr w.heap.size a' c' (spTo h T j)) ∧ Hid (Below w.heap.size w wr)) (fun _ v4 _ => N - (intOf v4).toNat)
  case atStart => exact ⟨0, none, 0, 0, by omega, by go_num, rfl, ⟨rfl, World.ownsRow_nil _ _ _ _⟩, Below.refl _ _⟩
  case round =>
    clear c0 c1
    obtain ⟨j, a', m, c', hj, rfl, rfl, HO, Hb⟩ := hrel
    have hRw := HR0.out.on Hb.out
    obtain ⟨c0, c1⟩ := hRw.cells
    rw [HN.out] at c1
    by_cases hlt : h + j < N
    · have hlt' : (h : Int) + j < N := by omega
      have hat := hRw.at (i := h + j) (by rw [HN.out]; exact hlt)
      have Hnext : Hid (spTo h T (j + 1) = if T.getD (h + j) false then spTo h T j else addS (spTo h T j) (h + j)) := rfl
      have hml : m ≤ j := by have := spTo_len h T j; have h2 := HO.out.1; omega
      clear hRw c0
      generalize T.getD (h + j) false = t at *
      cases t with
      | true =>
        have HO2 : Hid ((spTo h T (j + 1)).length = m ∧ OwnSp wr w.heap.size a' c' (spTo h T (j + 1))) := by rw [Hnext.out]; exact HO.out
        clear HP Hnext HO
        go_wp2
        go_roundw
        case rel => exact ⟨j + 1, _, _, _, by omega, by go_num, rfl, HO2, Hb⟩
        case measure => simp [intOf]; omega
      | false =>
        rw [if_neg (by simp)] at Hnext
        cases hlast : (spTo h T j).getLast? with
        | none =>
          have e0 : spTo h T j = [] := List.getLast?_eq_none_iff.1 hlast
          obtain rfl : m = 0 := by have := HO.out.1; rw [e0] at this; exact this.symm
          have e1 : spTo h T (j + 1) = [(h + j, 1)] := by rw [Hnext.out]; unfold addS; rw [hlast]
          have HOe : Hid (OwnSp wr w.heap.size a' c' []) := by have := HO.out.2; rw [e0] at this; exact this
          clear HP HO e0 hlast Hnext HR0
          go_wp2_with fail
          go_big_quiet (fail)
          have Hb2 : Hid (Below w.heap.size w ((wr.drewN nq).alloc (.cells #[.int .i64 ((h : Int) + j), .int .i64 1] 34))) := by
            have hbq : Below w.heap.size w (wr.drewN nq) := ⟨Hb.out.os, Hb.out.tape, Hb.out.output, Hb.out.size, Hb.out.block⟩
            exact hbq.alloc hbq.size _
          have HO2 : Hid (OwnSp ((wr.drewN nq).alloc (.cells #[.int .i64 ((h : Int) + j), .int .i64 1] 34)) w.heap.size a' c' []) := World.ownsRow.alloc (w := wr.drewN nq) HOe.out _
          have Hnw : Hid (∀ k u, (spc (h + j, 1))[k]? = some u → ((wr.drewN nq).alloc (.cells #[.int .i64 ((h : Int) + j), .int .i64 1] 34)).cell? ((⟨(wr.drewN nq).heap.size, 0, none⟩ : Addr).add k) = some u) := by
            have := World.news_of_block (heap_alloc_new (wr.drewN nq) (.cells #[.int .i64 ((h : Int) + j), .int .i64 1] 34))
            show ∀ k u, _
            unfold spc
            simp only [Int.natCast_add]
            exact this
          go_wp2_with (at_builtin; refine wpList_append_sp rfl (.tmp 56) (.tmp 59) rfl w.heap.size a' 0 c' [] rfl rfl HO2.out _ (h + j, 1) rfl Hnw.out (by omega) w Hb2.out Hb2.out.size ?_; intro a3 c3 w3 HO3 hb3)
          have HO4 : Hid ((spTo h T (j + 1)).length = 0 + 1 ∧ OwnSp w3 w.heap.size a3 c3 (spTo h T (j + 1))) := by rw [e1]; exact ⟨rfl, HO3.out⟩
          clear HO3 HO2 Hnw HOe Hb2
          go_roundw
          case rel => exact ⟨j + 1, _, _, _, by omega, by go_num, rfl, HO4, hb3⟩
          case measure => simp [intOf]; omega
        | some x =>
          obtain ⟨f, mm⟩ := x
          have hs := last_split hlast
          obtain ⟨L0, hL0⟩ : ∃ L0, L0 = (spTo h T j).dropLast := ⟨_, rfl⟩
          rw [← hL0] at hs
          obtain ⟨q, hq⟩ : ∃ q, q = L0.length := ⟨_, rfl⟩
          obtain rfl : m = q + 1 := by have := HO.out.1; rw [hs, List.length_append, ← hq] at this; exact this.symm
          have hin := (spTo_is h T j).ins (f, mm) (by rw [hs]; simp)
          simp only at hin
          have hown := HO.out.2
          unfold OwnSp at hown
          rw [HO.out.1] at hown
          obtain ⟨gb, rfl⟩ : ∃ gb, a' = some ⟨gb, 0, none⟩ := by
            rcases hown.2 with ⟨_, h0⟩ | ⟨gb, _, _, hv, _⟩
            · omega
            · simp only [Value.slice.injEq] at hv
              exact ⟨gb, hv.1⟩
          have hcl := spCells_at (spTo h T j) q (by rw [HO.out.1]; omega)
          have hlq : (spTo h T j)[q]'(by rw [HO.out.1]; omega) = (f, mm) := by
            have h5 : (spTo h T j)[q]? = some (f, mm) := by rw [hs, hq, List.getElem?_append_right (Nat.le_refl _), Nat.sub_self]; rfl
            exact (List.getElem?_eq_some_iff.1 h5).2
          rw [hlq] at hcl
          have cf : wr.cell? ⟨gb, q * 2, none⟩ = some (.int .i64 (f : Int)) := by rw [hown.cellAt (q * 2) (by omega)]; exact hcl.1
          have cm : wr.cell? ⟨gb, q * 2 + 1, none⟩ = some (.int .i64 (mm : Int)) := by rw [hown.cellAt (q * 2 + 1) (by omega)]; exact hcl.2
          have fm : wr.frozen? ⟨gb, q * 2 + 1, none⟩ = false := hown.frozenAt _
          have Hgb : Hid (w.heap.size ≤ gb ∧ gb < wr.heap.size) := hown.lt gb rfl
          by_cases hfm : f + mm = h + j
          · have e1 : spTo h T (j + 1) = L0 ++ [(f, mm + 1)] := by rw [Hnext.out]; unfold addS; rw [hlast]; simp only; rw [if_pos hfm, hL0]
            have HO2 : Hid (∀ k, (spTo h T (j + 1)).length = q + 1 ∧ OwnSp ((wr.drewN k).setCell ⟨gb, q * 2 + 1, none⟩ (.int .i64 ((mm : Int) + 1))) w.heap.size (some ⟨gb, 0, none⟩) c' (spTo h T (j + 1))) := fun k => by
              have e2 : (spTo h T (j + 1)).length = q + 1 := by rw [e1, List.length_append, ← hq]; rfl
              refine ⟨e2, ?_⟩
              have h6 := (World.ownsRow.stored (w := wr.drewN k) hown (q * 2 + 1) (.int .i64 ((mm : Int) + 1))).1
              unfold OwnSp
              rw [e2]
              have h7 : (spCells (spTo h T j)).set (q * 2 + 1) (.int .i64 ((mm : Int) + 1)) = spCells (spTo h T (j + 1)) := by
                rw [e1, hs, spCells_snoc, spCells_snoc, List.set_append_right _ _ (by rw [spCells_len, ← hq]; omega), spCells_len, ← hq, show q * 2 + 1 - q * 2 = 1 by omega]
                rfl
              rw [← h7]
              exact h6
            have Hb2 : Hid (∀ k, Below w.heap.size w ((wr.drewN k).setCell ⟨gb, q * 2 + 1, none⟩ (.int .i64 ((mm : Int) + 1)))) := fun k => by
              have hbq : Below w.heap.size w (wr.drewN k) := ⟨Hb.out.os, Hb.out.tape, Hb.out.output, Hb.out.size, Hb.out.block⟩
              exact hbq.setCell (p := ⟨gb, q * 2 + 1, none⟩) Hgb.out.1 _
            have d0 : decide ((0 : Int) < (q : Int) + 1) = true := decide_eq_true (by omega)
            have d1 : ((f : Int) + mm == (h : Int) + j) = true := by simp; omega
            have hmm : (mm : Int) ≤ 5000 := by omega
            have hff : (f : Int) ≤ 5000 := by omega
            clear HP HO hown hcl hlq hlast Hnext HR0 hs hL0 hq Hb
            go_wp2_with fail
            go_big_quiet (fail)
            have cm2 : (wr.drewN nq).cell? ⟨gb, q * 2 + 1, none⟩ = some (.int .i64 (mm : Int)) := cm
            have fm2 : (wr.drewN nq).frozen? ⟨gb, q * 2 + 1, none⟩ = false := fm
            go_wp2
            go_roundw
            case rel => exact ⟨j + 1, _, _, _, by omega, by go_num, rfl, HO2.out _, Hb2.out _⟩
            case measure => simp [intOf]; omega
          · have e1 : spTo h T (j + 1) = spTo h T j ++ [(h + j, 1)] := by rw [Hnext.out]; unfold addS; rw [hlast]; simp only; rw [if_neg hfm]
            have HOe : Hid ((spTo h T j).length = q + 1 ∧ OwnSp wr w.heap.size (some ⟨gb, 0, none⟩) c' (spTo h T j)) := HO.out
            have d0 : decide ((0 : Int) < (q : Int) + 1) = true := decide_eq_true (by omega)
            have d1 : ((f : Int) + mm == (h : Int) + j) = false := by simp; omega
            have hmm : (mm : Int) ≤ 5000 := by omega
            have hff : (f : Int) ≤ 5000 := by omega
            clear HP HO hown hcl hlq hlast Hnext HR0 hs hL0 hq
            go_wp2_with fail
            go_big_quiet (fail)
            have Hb2 : Hid (Below w.heap.size w ((wr.drewN nq).alloc (.cells #[.int .i64 ((h : Int) + j), .int .i64 1] 34))) := by
              have hbq : Below w.heap.size w (wr.drewN nq) := ⟨Hb.out.os, Hb.out.tape, Hb.out.output, Hb.out.size, Hb.out.block⟩
              exact hbq.alloc hbq.size _
            have HO2 : Hid (OwnSp ((wr.drewN nq).alloc (.cells #[.int .i64 ((h : Int) + j), .int .i64 1] 34)) w.heap.size (some ⟨gb, 0, none⟩) c' (spTo h T j)) := World.ownsRow.alloc (w := wr.drewN nq) HOe.out.2 _
            have Hnw : Hid (∀ k u, (spc (h + j, 1))[k]? = some u → ((wr.drewN nq).alloc (.cells #[.int .i64 ((h : Int) + j), .int .i64 1] 34)).cell? ((⟨(wr.drewN nq).heap.size, 0, none⟩ : Addr).add k) = some u) := by
              have := World.news_of_block (heap_alloc_new (wr.drewN nq) (.cells #[.int .i64 ((h : Int) + j), .int .i64 1] 34))
              show ∀ k u, _
              unfold spc
              simp only [Int.natCast_add]
              exact this
            go_wp2_with (at_builtin; refine wpList_append_sp rfl (.tmp 56) (.tmp 59) rfl w.heap.size (some ⟨gb, 0, none⟩) (q + 1) c' (spTo h T j) HOe.out.1 rfl HO2.out _ (h + j, 1) rfl Hnw.out (by omega) w Hb2.out Hb2.out.size ?_; intro a3 c3 w3 HO3 hb3)
            have HO4 : Hid ((spTo h T (j + 1)).length = q + 1 + 1 ∧ OwnSp w3 w.heap.size a3 c3 (spTo h T (j + 1))) := by rw [e1]; exact ⟨by rw [List.length_append, HOe.out.1]; rfl, HO3.out⟩
            clear HO3 HO2 Hnw HOe Hb2
            go_roundw
            case rel => exact ⟨j + 1, _, _, _, by omega, by go_num, rfl, HO4, hb3⟩
            case measure => simp [intOf]; omega
    · obtain hjN : h + j = N := by omega
      have R := HP.out wr a' m c' (spTo h T j) (by unfold spansS; rw [HN.out, show N - h = j by omega]) HO.out.1 HO.out.2 Hb.out
      have hge : ¬ (h : Int) + j < N := by omega
      clear HP HO Hb
      go_wp2
      exact R
end Go.Proofs.Ytffhnecdmdmmkaa
