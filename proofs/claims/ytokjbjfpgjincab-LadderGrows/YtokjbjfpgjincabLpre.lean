/-
  What LadderGrows wants: numbers, awake, rows of stages.
-/
import Derived.Test.YtokjbjfpgjincabLbase
import Derived.Test.YtokjbjfpgjincabLheld
import Derived.Laws.OwnMore
import Derived.Deep.AppendLies
set_option maxRecDepth 20000
namespace Go.Proofs.Ytokjbjfpgjincab
open Go.RowKit

theorem ownsRow_cell {W : World} {b e size k cap : Nat} {g : Nat} {xs : List Value} (h : W.ownsRow b e size (.slice (some ⟨g, 0, none⟩) k cap) k xs) (j : Nat) (hj : j < k * size) : W.cell? ⟨g, j, none⟩ = xs[j]? := by
  rcases h.2 with ⟨h0, _⟩ | ⟨g', cap', cur, hv, _, hh, _, _, _, ht⟩
  · simp at h0
  · simp only [Value.slice.injEq, Option.some.injEq, Addr.mk.injEq, and_true, true_and] at hv
    obtain ⟨rfl, rfl⟩ := hv
    rw [cell_of_row W g j cur e (0, 0) hh, ← ht, List.getElem?_take, if_pos hj]
    simp
theorem cell_two_new (W : World) (T : TypeId) (u v : Value) : ∀ (j : Nat) (x : Value), [u, v][j]? = some x → (W.alloc (.cells #[u, v] T)).cell? (Addr.add ⟨W.heap.size, 0, none⟩ j) = some x := by
  intro j x h
  have e := cell_of_row (W.alloc (.cells #[u, v] T)) W.heap.size j _ T (0, 0) (heap_alloc_new W _)
  match j with
  | 0 => simpa [Addr.add] using e.trans h
  | 1 => simpa [Addr.add] using e.trans h
  | j + 2 => simp at h
theorem ownsRow_on {W W' : World} {b e size k : Nat} {v : Value} {xs : List Value} (h : W.ownsRow b e size v k xs) (hB : Below W.heap.size W W') : W'.ownsRow b e size v k xs := by
  refine ⟨h.1, ?_⟩
  rcases h.2 with h0 | ⟨g, cap, cur, hv, hb, hh, hr⟩
  · exact .inl h0
  · exact .inr ⟨g, cap, cur, hv, hb, (hB.block g (Array.getElem?_eq_some_iff.1 hh).1).trans hh, hr⟩
theorem radL_rng {l : Lad} {k v : Int} (h : v ∈ radL l k) : -1 ≤ v ∧ v ≤ 8 := by
  unfold radL at h
  split at h
  · rename_i hs
    have H := st_iff.1 hs
    have hkl : k.toNat < l.length := by have := H.2; omega
    refine ⟨?_, H.1.le _ hkl v h⟩
    obtain ⟨i, hi, rfl⟩ := List.mem_iff_getElem.1 h
    have := (spread_is H.1.f hkl).low i
    unfold gt at this
    rw [List.getD_eq_getElem?_getD, List.getElem?_eq_getElem hi] at this
    exact this
  · simp at h
set_option maxHeartbeats 1000000 in
theorem numbers_c (a b : Option Addr) (n ca cb : Nat) (xs : List Int) (w : World) (ha : IntsAt w a xs) (hb : IntsAt w b xs) (hn : xs.length = n) (hle : n ≤ 1000000) :
    Calls Try.prog 8 #[.slice a n ca, .slice b n cb] w fun e w' => e = .returned (.bool true) ∧ Below w.heap.size w w' := by
  obtain ⟨Post, hPost⟩ : ∃ Post : Ending → World → Prop, Post = fun e w' => e = .returned (.bool true) ∧ Below w.heap.size w w' := ⟨_, rfl⟩
  rw [← hPost]
  have HP : Hid (∀ w', Below w.heap.size w w' → Post (.returned (.bool true)) w') := fun w' h => by rw [hPost]; exact ⟨rfl, h⟩
  clear hPost
  have Ha : Hid (IntsAt w a xs) := ha
  have Hb : Hid (IntsAt w b xs) := hb
  have Hn : Hid (xs.length = n) := hn
  clear ha hb hn
  go_enter Try.func8, Try.ntmps8
  go_wp2
  go_loopw [5] (fun v wr => ∃ (i : Nat), i ≤ n ∧ v = .int .i64 (i : Int) ∧ Hid (Below w.heap.size w wr)) (fun v _ => n - (intOf v).toNat)
  case atStart => exact ⟨0, Nat.zero_le _, by go_num, Below.refl _ _⟩
  case round =>
    obtain ⟨i, hi, rfl, HBe⟩ := hrel
    by_cases hlt : i < n
    · have hlt' : (i : Int) < (n : Int) := by omega
      have hil : i < xs.length := by rw [Hn.out]; exact hlt
      obtain ⟨ab, ao, rfl, hac⟩ : ∃ b off, a = some ⟨b, off, none⟩ ∧ ∀ j (h : j < xs.length), wr.cell? ⟨b, off + j, none⟩ = some (.int .i64 xs[j]) := by
        rcases Ha.out.on HBe.out with h | h
        · rw [h] at hil; simp at hil
        · exact h
      obtain ⟨bb, bo, rfl, hbc⟩ : ∃ b' off, b = some ⟨b', off, none⟩ ∧ ∀ j (h : j < xs.length), wr.cell? ⟨b', off + j, none⟩ = some (.int .i64 xs[j]) := by
        rcases Hb.out.on HBe.out with h | h
        · rw [h] at hil; simp at hil
        · exact h
      have q0 := hac i hil
      have q1 := hbc i hil
      generalize xs[i] = v at *
      clear HP hac hbc
      go_wp2_with fail
      go_big_quiet (fail)
      have HB2 : Hid (Below w.heap.size w (wr.drewN nq)) := below_drewN HBe.out nq
      go_wp2
      go_roundw
      case rel => exact ⟨i + 1, by omega, by go_num, HB2⟩
      case measure => simp [intOf]; omega
    · obtain rfl : i = n := by omega
      have hge : ¬ (i : Int) < (i : Int) := by omega
      have R := HP.out wr HBe.out
      clear HP
      go_wp2
      exact R
theorem world_r5 : radL worldLad 5 = [2, 2, 1, 1, 1, 0] := by decide
theorem world_r2 : radL worldLad 2 = [1, 1, 0, -1, -1, -1] := by decide
theorem world_c2 : capS (radL worldLad 2) = 19 := by rw [world_r2]; decide
theorem world_c5 : capS (radL worldLad 5) = 78 := by rw [world_r5]; decide
theorem ints_new (w : World) (xs : List Int) : IntsAt (w.alloc (.cells (ivals xs) 3)) (some ⟨w.heap.size, 0, none⟩) xs := IRow.ints (heap_alloc_new w _)
set_option maxHeartbeats 1000000 in
theorem awake_c (J : LSpec) (w : World) : Calls Try.prog 4 #[] w fun e w' => e = .returned (.bool true) ∧ Below w.heap.size w w' := by
  obtain ⟨Post, hPost⟩ : ∃ Post : Ending → World → Prop, Post = fun e w' => e = .returned (.bool true) ∧ Below w.heap.size w w' := ⟨_, rfl⟩
  rw [← hPost]
  have HP : Hid (∀ w', Below w.heap.size w w' → Post (.returned (.bool true)) w') := fun w' h => by rw [hPost]; exact ⟨rfl, h⟩
  clear hPost
  go_enter Try.func4, Try.ntmps4
  go_wp2_with fail
  refine (J.world_ w).mono ?_
  rintro _ w1 ⟨hb1, a1, c1, L1, rfl, hR1, hL1⟩
  have hl1 : L1.length = 6 := by rw [← lad_len, hL1]; rfl
  go_wp2_with fail
  refine (J.radii_ a1 6 c1 L1 5 w1 hR1 hl1 (by unfold maxLen; omega) ⟨by omega, by omega⟩).mono ?_
  rw [hL1, world_r5]
  rintro _ w2 ⟨hb2, a2, c2, rfl, hI2, _⟩
  have hbA : Below w.heap.size w w2 := hb1.trans (hb2.mono hb1.size)
  have hI3 := hI2.on ((Below.refl _ _).alloc (Nat.le_refl _) (.cells (ivals [2, 2, 1, 1, 1, 0]) 3))
  have hN3 := ints_new w2 [2, 2, 1, 1, 1, 0]
  have hbB : Below w.heap.size w (w2.alloc (.cells (ivals [2, 2, 1, 1, 1, 0]) 3)) := hbA.alloc hbA.size _
  clear hb1 hb2 hbA hI2 hR1 hL1 hl1
  have HI3 : Hid _ := hI3
  have HN3 : Hid _ := hN3
  have HbB : Hid _ := hbB
  clear hI3 hN3 hbB
  go_wp2_with fail
  refine (numbers_c a2 (some ⟨w2.heap.size, 0, none⟩) 6 c2 6 [2, 2, 1, 1, 1, 0] _ HI3.out HN3.out rfl (by omega)).mono ?_
  rintro _ w3 ⟨rfl, hb3⟩
  have Hb3 : Hid (Below w.heap.size w w3) := HbB.out.trans (hb3.mono HbB.out.size)
  clear HI3 HN3 HbB hb3
  go_wp2_with fail
  refine (J.world_ w3).mono ?_
  rintro _ w4 ⟨hb4, a4, c4, L4, rfl, hR4, hL4⟩
  have hl4 : L4.length = 6 := by rw [← lad_len, hL4]; rfl
  have Hb4 : Hid (Below w.heap.size w w4) := Hb3.out.trans (hb4.mono Hb3.out.size)
  clear Hb3 hb4
  go_wp2_with fail
  refine (J.radii_ a4 6 c4 L4 2 w4 hR4 hl4 (by unfold maxLen; omega) ⟨by omega, by omega⟩).mono ?_
  rw [hL4, world_r2]
  rintro _ w5 ⟨hb5, a5, c5, rfl, hI5, _⟩
  have hbA : Below w.heap.size w w5 := Hb4.out.trans (hb5.mono Hb4.out.size)
  have HI3 : Hid _ := hI5.on ((Below.refl _ _).alloc (Nat.le_refl _) (.cells (ivals [1, 1, 0, -1, -1, -1]) 3))
  have HN3 : Hid _ := ints_new w5 [1, 1, 0, -1, -1, -1]
  have HbB : Hid (Below w.heap.size w (w5.alloc (.cells (ivals [1, 1, 0, -1, -1, -1]) 3))) := hbA.alloc hbA.size _
  clear hb5 hbA hI5 hR4 hL4 hl4 Hb4
  go_wp2_with fail
  refine (numbers_c a5 (some ⟨w5.heap.size, 0, none⟩) 6 c5 6 [1, 1, 0, -1, -1, -1] _ HI3.out HN3.out rfl (by omega)).mono ?_
  rintro _ w6 ⟨rfl, hb6⟩
  have Hb6 : Hid (Below w.heap.size w w6) := HbB.out.trans (hb6.mono HbB.out.size)
  clear HI3 HN3 HbB hb6
  go_wp2_with fail
  refine (J.world_ w6).mono ?_
  rintro _ w7 ⟨hb7, a7, c7, L7, rfl, hR7, hL7⟩
  have hl7 : L7.length = 6 := by rw [← lad_len, hL7]; rfl
  have Hb7 : Hid (Below w.heap.size w w7) := Hb6.out.trans (hb7.mono Hb6.out.size)
  clear Hb6 hb7
  go_wp2_with fail
  refine (J.cap_ a7 6 c7 L7 2 w7 hR7 hl7 (by unfold maxLen; omega) ⟨by omega, by omega⟩).mono ?_
  rw [hL7, world_c2]
  rintro _ w8 ⟨rfl, hb8⟩
  have Hb8 : Hid (Below w.heap.size w w8) := Hb7.out.trans (hb8.mono Hb7.out.size)
  clear hR7 hL7 hl7 Hb7 hb8
  go_wp2_with fail
  refine (J.world_ w8).mono ?_
  rintro _ w9 ⟨hb9, a9, c9, L9, rfl, hR9, hL9⟩
  have hl9 : L9.length = 6 := by rw [← lad_len, hL9]; rfl
  have Hb9 : Hid (Below w.heap.size w w9) := Hb8.out.trans (hb9.mono Hb8.out.size)
  clear Hb8 hb9
  go_wp2_with fail
  refine (J.cap_ a9 6 c9 L9 5 w9 hR9 hl9 (by unfold maxLen; omega) ⟨by omega, by omega⟩).mono ?_
  rw [hL9, world_c5]
  rintro _ w10 ⟨rfl, hb10⟩
  have Hb10 : Hid (Below w.heap.size w w10) := Hb9.out.trans (hb10.mono Hb9.out.size)
  clear hR9 hL9 hl9 Hb9 hb10
  go_wp2_with fail
  refine (J.world_ w10).mono ?_
  rintro _ w11 ⟨hb11, a11, c11, L11, rfl, _, _⟩
  have R := HP.out w11 (Hb10.out.trans (hb11.mono Hb10.out.size))
  clear HP hb11 Hb10
  go_wp2
  exact R
theorem capS_snoc (xs : List Int) (v : Int) : capS (xs ++ [v]) = capS xs + cap1 v := by simp [capS]
theorem capS_bound : ∀ (xs : List Int), (∀ v ∈ xs, -1 ≤ v ∧ v ≤ 8) → 0 ≤ capS xs ∧ capS xs ≤ 289 * (xs.length : Int)
  | [], _ => by simp [capS]
  | x :: xs, h => by
    have ih := capS_bound xs (fun v hv => h v (List.mem_cons_of_mem _ hv))
    obtain ⟨h1, h2⟩ := h x (by simp)
    have e : capS (x :: xs) = cap1 x + capS xs := by simp [capS]
    have hc : 0 ≤ cap1 x ∧ cap1 x ≤ 289 := by
      have hx : x = -1 ∨ x = 0 ∨ x = 1 ∨ x = 2 ∨ x = 3 ∨ x = 4 ∨ x = 5 ∨ x = 6 ∨ x = 7 ∨ x = 8 := by omega
      rcases hx with rfl | rfl | rfl | rfl | rfl | rfl | rfl | rfl | rfl | rfl <;> decide
    rw [e, List.length_cons]
    omega
def rgv (x : Rn) : Value := .slice x.a x.r.length x.c
def OwnG (w : World) (lo : Nat) (a : Option Addr) (c : Nat) (L : List Rn) : Prop := w.ownsRow lo 28 1 (.slice a L.length c) L.length (L.map rgv)
structure RnOk (w : World) (x : Rn) : Prop where
  rd : RdAt w x.a x.r
  nil : x.a = none → x.c = 0
  sz : x.r.length ≤ 8796093022208
theorem RnOk.on {w w' : World} {x : Rn} (h : RnOk w x) (hb : Below w.heap.size w w') : RnOk w' x := ⟨h.rd.on hb, h.nil, h.sz⟩
theorem RgAt.ok {w : World} {a : Option Addr} {L : List Rn} (h : RgAt w a L) : ∀ x ∈ L, RnOk w x := fun x hx => by
  obtain ⟨i, hi, rfl⟩ := List.mem_iff_getElem.1 hx
  obtain ⟨b, off, e, h1⟩ := h i hi
  exact ⟨h1.rd, h1.nil, h1.sz⟩
theorem OwnG.rg {w : World} {lo c : Nat} {a : Option Addr} {L : List Rn} (h : OwnG w lo a c L) (hok : ∀ x ∈ L, RnOk w x) : RgAt w a L := fun i hi => by
  unfold OwnG at h
  obtain ⟨g, rfl⟩ : ∃ g, a = some ⟨g, 0, none⟩ := by
    rcases h.2 with ⟨_, h0⟩ | ⟨g, cap, cur, hv, _⟩
    · omega
    · simp only [Value.slice.injEq] at hv
      exact ⟨g, hv.1⟩
  have H := hok L[i] (List.getElem_mem hi)
  refine ⟨g, 0, rfl, ?_, H.rd, H.nil, H.sz⟩
  rw [Nat.zero_add, ownsRow_cell h _ (by omega), List.getElem?_map, List.getElem?_eq_getElem hi]
  rfl
theorem info28 : (Try.prog.info? 28).map (fun i => (i.zero, i.size, i.bytes)) = some (some (.agg #[.slice none 0 0]), 1, 24) := by kernel_rfl
theorem rg_one (L : List Rn) : ∀ u ∈ L.map rgv, u.oneCell' = true := fun u hu => by
  obtain ⟨x, _, rfl⟩ := List.mem_map.1 hu
  rfl
/-- A copy of a ladder. -/
theorem wpList_copy_rg {w : World} {ops : Array Oper} {rest : List Oper} {o : Oper} {a : Act} {Q : Exit → Act → World → Prop} (hgd : o.guard = none) (x : Operand)
    (ho : o.op = .call { callee := .builtin .append, args := #[.const (.slice none 0 0), x], argTypes := #[22, 22] }) (sp : Option Addr) (m sc : Nat) (L : List Rn) (hm : L.length = m) (hx : a.eval x = .slice sp m sc) (hR : RgAt w sp L) (hnil : sp = none → m = 0 ∧ sc = 0) (hle : m * 24 ≤ 140737488351232)
    (h : ∀ a' c' w', Hid (OwnG w' w.heap.size a' c' L) → Below w.heap.size w w' → wpList Try.prog ops Q rest (a.put o.dst (.slice a' m c')) w') : wpList Try.prog ops Q (o :: rest) a w := by
  obtain ⟨i, hi, hz0, hz1, hz2⟩ := info_parts info28
  cases sp with
  | none =>
    obtain ⟨rfl, rfl⟩ := hnil rfl
    have hL : L = [] := List.eq_nil_of_length_eq_zero hm
    subst hL
    have hrun := run_append_owned_none (P := Try.prog) (w := w) 0 22 o.type 28 i 1 Try.underlying22 hi (.slice none 0 0) 0 [] (World.ownsRow_nil _ _ _ _)
    have hev : a.eval (.const (.slice none 0 0)) = .slice none 0 0 := rfl
    refine wpList_plain hgd fun _ hK => ?_
    unfold Oper.wp
    simp [execOp, ho, resolve, invoke, builtin, hx, hev, hrun, Result.andThen]
    exact hK _ _ (h none 0 w (World.ownsRow_nil _ _ _ _) (Below.refl _ _))
  | some ad =>
    refine wpList_append_own w hgd (.const (.slice none 0 0)) x 22 ho w.heap.size 28 i _ 1 24 Try.underlying22 hi hz0 hz1 hz2 rfl (by decide) (.slice none 0 0) 0 [] rfl (World.ownsRow_nil _ _ _ _) ad m sc (L.map rgv) hx (by simpa using hm) ?_ (rg_one L) (by unfold maxLen; omega) (by omega) (Nat.le_refl _) ?_
    · intro j u hj
      obtain ⟨hj', hv⟩ := List.getElem?_eq_some_iff.1 hj
      rw [List.length_map] at hj'
      obtain ⟨b, off, e, h1⟩ := hR j hj'
      cases e
      rw [Addr.add_lit, h1.c0, ← hv]
      simp [rgv]
    · intro v' w' h1 h2 _
      have hb' : Below w.heap.size w w' := (Below.refl _ _).grown h2 (Nat.le_refl _) (fun k hk => by cases hk)
      have e : ∃ a' c', v' = .slice a' (0 + m) c' := by
        rcases h1.2 with ⟨hv, hn⟩ | ⟨g, cap, _, hv, _⟩
        · exact ⟨none, 0, by rw [hv, hn]⟩
        · exact ⟨_, _, hv⟩
      obtain ⟨a', c', rfl⟩ := e
      have := h a' c' w' (by show OwnG _ _ _ _ _; unfold OwnG; rw [hm]; simpa using h1) hb'
      simpa using this
theorem radL_length {l : Lad} {k : Int} (h1 : mayB l = true) (h0 : 0 ≤ k) (hk : k < (l.length : Int)) : (radL l k).length = l.length := by
  unfold radL stB
  rw [h1, decide_eq_true (show 0 ≤ k ∧ k < (l.length : Int) from ⟨h0, hk⟩)]
  simp only [Bool.and_self, if_true]
  exact spreadL_len _ _
end Go.Proofs.Ytokjbjfpgjincab
