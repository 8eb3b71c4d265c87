/-
  The landed light in memory: the field's cells, a light's three cells, its levels; how far a layer reaches; what a cell loses.
-/
import Derived.Test.YtmfjmcaaoljjlaaDoorKt
import Derived.Test.YtmfjmcaaoljjlaaDoorLRl
import Derived.Test.YtmfjmcaaoljjlaaDoorMlight
import Derived.Test.YtmfjmcaaoljjlaaDoorLwait
import Derived.Test.YtmfjmcaaoljjlaaDoorLheld
import Derived.Handy
set_option maxRecDepth 20000
namespace Go.Proofs.YtmfjmcaaoljjlaaDoor
open C Go.RowKit L

/-- What a light stands on: the field's block, the light's place, the kinds' row, the levels' row. -/
structure LE where
  p : Nat
  q : Nat
  o : Nat
  kb : Nat
  cap : Nat
  g : Nat
  lc : Nat
  W : Nat
  D : Nat
  T : Nat
  sky : Bool
  ks : List Int
abbrev LE.n (e : LE) : Nat := e.W * e.D * e.T
/-- The source, as the interface holds it. -/
def LE.src (e : LE) : Value := if e.sky = true then .iface 57 (.agg #[.pointer (some ⟨e.p, 0, none⟩)]) else .iface 58 (.agg #[.pointer (some ⟨e.p, 0, none⟩)])
/-- The field's cells in memory. -/
structure BM (e : LE) (w : World) : Prop where
  b0 : w.cell? ⟨e.p, 0, none⟩ = some (.int .i64 (e.W : Int))
  b1 : w.cell? ⟨e.p, 1, none⟩ = some (.int .i64 (e.D : Int))
  b2 : w.cell? ⟨e.p, 2, none⟩ = some (.int .i64 (e.T : Int))
  b3 : w.cell? ⟨e.p, 3, none⟩ = some (.slice (some ⟨e.kb, 0, none⟩) e.n e.cap)
  kp : Pre w e.kb 5 e.ks
  tb : Tabs w
/-- The light in memory. -/
structure LM (e : LE) (w : World) : Prop where
  bm : BM e w
  l0 : w.cell? ⟨e.q, e.o, none⟩ = some (.pointer (some ⟨e.p, 0, none⟩))
  l1 : w.cell? ⟨e.q, e.o + 1, none⟩ = some e.src
  l2 : w.cell? ⟨e.q, e.o + 2, none⟩ = some (.slice (some ⟨e.g, 0, none⟩) e.n e.lc)
/-- What is said of it. -/
structure LO (e : LE) : Prop where
  bx : Bx e.W e.D e.T
  kl : e.ks.length = e.n
  kk : Kinds e.ks
  gp : e.g ≠ e.p
  gq : e.g ≠ e.q
  gk : e.g ≠ e.kb
  g0 : 0 < e.g
theorem LO.nb {e : LE} (h : LO e) : e.n ≤ 294912 := Nat.le_trans (Nat.mul_le_mul (Nat.mul_le_mul h.bx.w1 h.bx.d1) h.bx.t1) (by decide)
theorem Pre.on {w w' : World} {b : Nat} {t : TypeId} {cs : List Int} (h : Pre w b t cs) (hb : Below w.heap.size w w') : Pre w' b t cs := h.below hb h.lt
theorem BM.on {e : LE} {w w' : World} (h : BM e w) (hb : Below w.heap.size w w') : BM e w' :=
  ⟨cell_below h.b0 hb, cell_below h.b1 hb, cell_below h.b2 hb, cell_below h.b3 hb, h.kp.on hb, h.tb.on hb⟩
theorem LM.on {e : LE} {w w' : World} (h : LM e w) (hb : Below w.heap.size w w') : LM e w' :=
  ⟨h.bm.on hb, cell_below h.l0 hb, cell_below h.l1 hb, cell_below h.l2 hb⟩
theorem cell_grown {w w' : World} {g b j : Nat} {v : Value} (hv : w.cell? ⟨b, j, none⟩ = some v) (hg : w.grownBy w' (some g)) (hne : b ≠ g) : w'.cell? ⟨b, j, none⟩ = some v := by
  rw [← hv]
  unfold World.cell?
  rw [show w'.heap[b]? = w.heap[b]? from hg.block b (World.block_lt_of_cell? w _ hv) (fun e => hne (by cases e; rfl))]
theorem BM.grown {e : LE} {w w' : World} (h : BM e w) (o : LO e) (hg : w.grownBy w' (some e.g)) : BM e w' :=
  ⟨cell_grown h.b0 hg o.gp.symm, cell_grown h.b1 hg o.gp.symm, cell_grown h.b2 hg o.gp.symm, cell_grown h.b3 hg o.gp.symm, h.kp.grown hg o.gk.symm, h.tb.grown hg o.g0⟩
theorem LM.grown {e : LE} {w w' : World} (h : LM e w) (o : LO e) (hg : w.grownBy w' (some e.g)) : LM e w' :=
  ⟨h.bm.grown o hg, cell_grown h.l0 hg o.gq.symm, cell_grown h.l1 hg o.gq.symm, cell_grown h.l2 hg o.gq.symm⟩
/-- The light as a system. -/
def LE.sys (e : LE) (hb : Bx e.W e.D e.T) : L.Sys := if e.sky = true then L.skyS e.W e.D e.T (fun j => e.ks.getD j 0) hb.w0 hb.d0 else L.lampS e.W e.D e.T (fun j => e.ks.getD j 0) hb.w0 hb.d0
section
variable {e : LE} (hb : Bx e.W e.D e.T)
theorem sys_n : (e.sys hb).n = e.n := by unfold LE.sys; split <;> rfl
theorem sys_pass (i : Nat) : (e.sys hb).pass i = passK (e.ks.getD i 0) := by unfold LE.sys; split <;> rfl
theorem sys_loss (i : Nat) : (e.sys hb).loss i = lossK (e.ks.getD i 0) := by unfold LE.sys; split <;> rfl
theorem sys_adj (i j : Nat) : (e.sys hb).adj i j ↔ (i < e.n ∧ j ∈ nbl e.W e.D e.T i) := by rw [mem_nbl]; unfold LE.sys; split <;> exact Iff.rfl
theorem sys_src (i : Nat) : (e.sys hb).src i = if e.sky = true then skyN e.W e.D e.T (fun j => e.ks.getD j 0) i else lampN e.W e.D e.T (fun j => e.ks.getD j 0) i := by unfold LE.sys; split <;> rfl
end
/-- How far a layer reaches. -/
theorem layer_c (e : LE) (o : LO e) (w : World) (h : BM e w) : Calls Tryd.prog 38 #[.pointer (some ⟨e.p, 0, none⟩)] w fun x w' => x = .returned (.int .i64 ((e.W * e.D : Nat) : Int)) ∧ Below w.heap.size w w' := by
  have c0 := h.b0
  have c1 := h.b1
  have hm : e.W * e.D ≤ 48 * 48 := Nat.mul_le_mul o.bx.w1 o.bx.d1
  have wm : IntKind.i64.wrap ((e.W : Int) * (e.D : Int)) = ((e.W * e.D : Nat) : Int) := by rw [IntKind.wrap_i64]; push_cast; omega
  obtain ⟨X, hX⟩ : ∃ X : Int, ((e.W * e.D : Nat) : Int) = X := ⟨_, rfl⟩
  rw [hX] at wm ⊢
  clear h o hm hX
  go_enter Tryd.func38, Tryd.ntmps38
  go_wp2_with fail
  go_quiet (fail)
  go_wp2
  go_ret
  exact ⟨rfl, below_drewN (Below.refl _ _) _⟩
set_option maxHeartbeats 1000000 in
theorem loss_c (e : LE) (o : LO e) (i : Nat) (hi : i < e.n) (w : World) (h : BM e w) : Calls Tryd.prog 31 #[.pointer (some ⟨e.p, 0, none⟩), .int .i64 (i : Int)] w fun x w' => x = .returned (.int .i64 (lossF (e.ks.getD i 0) : Nat)) ∧ Below w.heap.size w w' := by
  have c3 := h.b3
  have ck := h.kp.cell (k := i) (by rw [o.kl]; exact hi)
  obtain ⟨k0, k1⟩ := Kinds.at o.kk i
  obtain ⟨K, hK⟩ := Int.eq_ofNat_of_zero_le k0
  have T := h.tb
  have hnb := o.nb
  rw [hK] at ck k1 ⊢
  have hK17 : K < 17 := by omega
  obtain ⟨n, hn⟩ : ∃ n, e.n = n := ⟨_, rfl⟩
  rw [hn] at c3 hi hnb
  have hi1 : (i : Int) < n := by omega
  clear h o k0 k1 hK hn
  rcases Nat.lt_or_ge K 16 with h | h
  · have hc := fun (w1 : World) (T1 : Tabs w1) => kind_isOpaque K hK17 w1 T1
    have he := loss_is K h
    have hne : ¬ (K : Int) = 16 := by omega
    have hne' : ((K : Int) == 16) = false := by simpa using hne
    have hl := fun (w1 : World) (T1 : Tabs w1) => kind_loses K hK17 w1 T1
    clear h
    rcases hop : opK K with _ | _
    · rw [hop, if_neg (by decide)] at he
      rw [hop] at hc
      rw [← he]
      clear hop he hne
      go_enter Tryd.func31, Tryd.ntmps31
      go_wp2_with fail
      refine (hc w T).mono ?_
      rintro _ w1 ⟨rfl, b⟩
      clear hc
      have T1 := T.on b
      go_wp2_with fail
      refine (hl w1 T1).mono ?_
      rintro _ w2 ⟨rfl, b2⟩
      have B := b.trans (b2.mono b.size)
      clear hl T1 b b2 T
      go_wp2
      go_ret
      exact ⟨rfl, B⟩
    · rw [hop, if_pos rfl] at he
      rw [hop] at hc
      rw [← he]
      clear hop he hne hl
      go_enter Tryd.func31, Tryd.ntmps31
      go_wp2_with fail
      refine (hc w T).mono ?_
      rintro _ w1 ⟨rfl, b⟩
      clear hc
      go_wp2
      go_ret
      exact ⟨rfl, b⟩
  · obtain rfl : K = 16 := by omega
    have e : lossF ((16 : Nat) : Int) = 16 := by decide
    rw [e]
    clear h hK17 T e
    go_enter Tryd.func31, Tryd.ntmps31
    go_wp2
    go_ret
    exact ⟨rfl, Below.refl _ _⟩
end Go.Proofs.YtmfjmcaaoljjlaaDoor
