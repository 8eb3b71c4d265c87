/-
  The document's Copy: another disk like it.
-/
import Derived.Test.YtjkeejbfipmidaaCopied
set_option maxRecDepth 20000
namespace Go.Proofs.Ytjkeejbfipmidaa
open Go.RowKit

/-- The new disk, with its first so many blocks. -/
def Part (w : World) (S : St) (j : Nat) (a' : Option Addr) (c' : Nat) (wr : World) : Prop := ∃ q', RD (fun k => w.heap.size ≤ k ∧ k < wr.heap.size) wr w.heap.size { S with l := S.l.take j } a' c' q'
theorem Part.drew {w : World} {S : St} {j : Nat} {a' : Option Addr} {c' : Nat} {wr : World} (h : Part w S j a' c' wr) : Part w S j a' c' wr.drew := by
  obtain ⟨q', h⟩ := h
  exact ⟨q', h.keep (fun _ _ => rfl)⟩
theorem Part.lt {w : World} {S : St} {j : Nat} {a' : Option Addr} {c' : Nat} {wr : World} (h : Part w S j a' c' wr) : w.heap.size < wr.heap.size := by
  obtain ⟨q', h⟩ := h
  exact h.glt
set_option maxHeartbeats 4000000 in
theorem rcopy_c (F : Nat → Prop) (g : Nat) (S : St) (w : World) (hD : RDisk F w g S) :
    Calls Try.prog 18 #[.pointer (some ⟨g, 0, none⟩)] w fun e w' => ∃ g' F', e = .returned (.pointer (some ⟨g', 0, none⟩)) ∧ RDisk F' w' g' S ∧ (∀ k, F' k → w.heap.size ≤ k ∧ k < w'.heap.size) ∧ Below w.heap.size w w' := by
  obtain ⟨a, c, q, hD⟩ := hD
  obtain ⟨Post, hPost⟩ : ∃ Post : Ending → World → Prop, Post = fun e w' => ∃ g' F', e = .returned (.pointer (some ⟨g', 0, none⟩)) ∧ RDisk F' w' g' S ∧ (∀ k, F' k → w.heap.size ≤ k ∧ k < w'.heap.size) ∧ Below w.heap.size w w' := ⟨_, rfl⟩
  rw [← hPost]
  have HP : Hid (∀ w' a' c', Part w S S.l.length a' c' w' → Below w.heap.size w w' → Post (.returned (.pointer (some ⟨w.heap.size, 0, none⟩))) w') := fun w' a' c' h1 h2 => by
    obtain ⟨q', h1⟩ := h1
    rw [hPost]
    have e : ({ S with l := S.l.take S.l.length } : St) = S := by rw [List.take_length]
    rw [e] at h1
    exact ⟨w.heap.size, _, rfl, ⟨_, _, _, h1⟩, fun k hk => hk, h2⟩
  clear hPost
  have HD : Hid (RD F w g S a c q) := hD
  have hd0 := hD.head0
  obtain ⟨hd1, hd2, hd3, hd4⟩ := hD.cell1
  have hb8 := hD.bds.2.2.2.2
  clear hD
  go_enter Try.func18, Try.ntmps18
  go_upto_region 3 with fail
  have HPt : Hid (Part w S 0 none 0 (w.alloc (.cells #[.slice none 0 0, .bool S.out, .bool S.armed, .int .i64 S.left, .int .i64 S.writes] 62))) := by
    have h1 : (w.alloc (.cells #[.slice none 0 0, .bool S.out, .bool S.armed, .int .i64 S.left, .int .i64 S.writes] 62)).heap[w.heap.size]? = some (.cells #[.slice none 0 0, .bool S.out, .bool S.armed, .int .i64 S.left, .int .i64 S.writes] 62 (0, 0)) := heap_alloc_new w _
    refine ⟨[], h1, rfl, World.ownsRow_nil _ _ _ _, fun j hj => absurd hj (Nat.not_lt_zero _), ⟨⟨Nat.le_refl _, (Array.getElem?_eq_some_iff.1 h1).1⟩, fun h e => (by cases e), fun p hp => absurd hp (by simp)⟩, fun x hx => absurd hx (by simp), HD.out.arm, ?_⟩
    have := HD.out.bds
    simp only [List.take_zero, List.length_nil]
    omega
  have Hb0 : Hid (Below w.heap.size w (w.alloc (.cells #[.slice none 0 0, .bool S.out, .bool S.armed, .int .i64 S.left, .int .i64 S.writes] 62))) := (Below.refl _ _).alloc (Nat.le_refl _) _
  generalize w.alloc (.cells #[.slice none 0 0, .bool S.out, .bool S.armed, .int .i64 S.left, .int .i64 S.writes] 62) = w0 at *
  obtain ⟨N, hN⟩ : ∃ N, N = S.l.length := ⟨_, rfl⟩
  have HN : Hid (N = S.l.length) := hN
  rw [← hN] at hd0 HP hb8
  clear hN hd1 hd2 hd3 hd4
  obtain ⟨i72, hi72, hz0, hz1, hz2⟩ := info_parts info72
  have hdA : Hid (∀ w', Below w.heap.size w w' → w'.cell? ⟨g, 0, none⟩ = some (.slice a N c)) := fun w' h => cell_on h hd0
  have hd0' := hdA.out w0 Hb0.out
  go_wp2
  go_loopw [4] (fun v4 wr => ∃ (j : Nat) (a' : Option Addr) (c' : Nat), j ≤ N ∧ v4 = .int .i64 (j : Int) ∧ Hid (Part w S j a' c' wr) ∧ Hid (Below w.heap.size w wr)) (fun v4 _ => N - (intOf v4).toNat)
  case atStart => exact ⟨0, none, 0, Nat.zero_le _, rfl, HPt.out, Hb0.out⟩
  case round =>
    obtain ⟨j, a', c', hj, rfl, HC, Hb⟩ := hrel
    clear hd0' HPt Hb0
    have hd0r := hdA.out wr Hb.out
    by_cases hlt : j < N
    · have hlt' : (j : Int) < N := by omega
      have hjl : j < S.l.length := by rw [← HN.out]; exact hlt
      obtain ⟨b, hq, rfl, r0, r1, r2, r3, r4, hbl⟩ := HD.out.cells hjl
      have HBy : Hid (Bytes w (some ⟨q[j].1, 0, none⟩) 32 S.l[j].b) := HD.out.bytes j hjl hq
      have Hok : Hid (argOk S.l[j].i S.l[j].b.length) := HD.out.ok _ (List.getElem_mem hjl)
      have Hnext : Hid (S.l.take (j + 1) = S.l.take j ++ [S.l[j]]) := List.take_succ_eq_append_getElem hjl
      have HtL : Hid ((S.l.take j).length = j) := by show _ = _; rw [List.length_take]; omega
      generalize q[j] = qj at *
      generalize S.l[j] = bj at *
      obtain ⟨qb, qc⟩ := qj
      obtain ⟨⟨f1, f2, f3⟩, bi, bb⟩ := bj
      simp only at r0 r1 r2 r3 r4 HBy Hok
      clear hjl hq
      go_wp2
      refine region_L (fun w' => Below w.heap.size w w' ∧ w'.cell? ⟨w.heap.size, 0, none⟩ = some (.slice a' j c')) 31 (by kernel_rfl) ?_
      have HCa : Hid (Part w S j a' c' wr.drew) := HC.out.drew
      have Hba : Hid (Below w.heap.size w wr.drew) := Hb.out.drew
      clear HC Hb hd0r
      generalize wr.drew = va at *
      obtain ⟨q', hRD⟩ := HCa.out
      have HRD : Hid (RD (fun k => w.heap.size ≤ k ∧ k < va.heap.size) va w.heap.size { S with l := S.l.take j } a' c' q') := hRD
      have hh0 : va.cell? ⟨w.heap.size, 0, none⟩ = some (.slice a' j c') := by have := hRD.head0; rw [HtL.out] at this; exact this
      have hrow : va.ownsRow 0 72 5 (.slice a' j c') j (rowOf (S.l.take j) q') := by have := hRD.row; simp only [HtL.out] at this; exact this
      have Hrow : Hid (va.ownsRow 0 72 5 (.slice a' j c') j (rowOf (S.l.take j) q')) := hrow
      have HO : Hid (∀ k, Value.ownBlock (.slice a' j c') = some k → k < va.heap.size ∧ w.heap.size < k) := fun k hk => by
        rcases hRD.rowb with ⟨e, _⟩ | ⟨b0, e, h1, h2, h3⟩
        · rw [e] at hk; cases hk
        · rw [e] at hk
          have e2 : b0 = k := by simpa [Value.ownBlock] using hk
          have h2' : w.heap.size ≤ b0 ∧ b0 < va.heap.size := h2
          exact ⟨by omega, by omega⟩
      have hgl := hRD.glt
      have Hhead : Hid _ := hRD.head
      clear hRD hrow HCa
      have hHeld : (fun w' => Below w.heap.size w w' ∧ w'.cell? ⟨w.heap.size, 0, none⟩ = some (.slice a' j c')) _ := ⟨Hba.out, hh0⟩
      have hne : Nonempty (Sub (fun w' => Below w.heap.size w w' ∧ w'.cell? ⟨w.heap.size, 0, none⟩ = some (.slice a' j c'))) := ⟨⟨_, hHeld⟩⟩
      have k0 : ∀ s : Sub (fun w' => Below w.heap.size w w' ∧ w'.cell? ⟨w.heap.size, 0, none⟩ = some (.slice a' j c')), s.w.cell? ⟨b, j * 5, none⟩ = some (.int .i64 f1) := fun s => cell_on s.ok.1 r0
      have k1 : ∀ s : Sub (fun w' => Below w.heap.size w w' ∧ w'.cell? ⟨w.heap.size, 0, none⟩ = some (.slice a' j c')), s.w.cell? ⟨b, j * 5 + 1, none⟩ = some (.int .i64 f2) := fun s => cell_on s.ok.1 r1
      have k2 : ∀ s : Sub (fun w' => Below w.heap.size w w' ∧ w'.cell? ⟨w.heap.size, 0, none⟩ = some (.slice a' j c')), s.w.cell? ⟨b, j * 5 + 2, none⟩ = some (.int .i64 f3) := fun s => cell_on s.ok.1 r2
      have k3 : ∀ s : Sub (fun w' => Below w.heap.size w w' ∧ w'.cell? ⟨w.heap.size, 0, none⟩ = some (.slice a' j c')), s.w.cell? ⟨b, j * 5 + 3, none⟩ = some (.int .i64 bi) := fun s => cell_on s.ok.1 r3
      have k4 : ∀ s : Sub (fun w' => Below w.heap.size w w' ∧ w'.cell? ⟨w.heap.size, 0, none⟩ = some (.slice a' j c')), s.w.cell? ⟨b, j * 5 + 4, none⟩ = some (.slice (some ⟨qb, 0, none⟩) 32 qc) := fun s => cell_on s.ok.1 r4
      have k5 : ∀ s : Sub (fun w' => Below w.heap.size w w' ∧ w'.cell? ⟨w.heap.size, 0, none⟩ = some (.slice a' j c')), s.w.cell? ⟨g, 0, none⟩ = some (.slice (some ⟨b, 0, none⟩) N c) := fun s => cell_on s.ok.1 hd0
      have k6 : ∀ s : Sub (fun w' => Below w.heap.size w w' ∧ w'.cell? ⟨w.heap.size, 0, none⟩ = some (.slice a' j c')), s.w.cell? ⟨w.heap.size, 0, none⟩ = some (.slice a' j c') := fun s => s.ok.2
      refine take_L (i := 0) rfl (by kernel_rfl) (by kernel_rfl) (by kernel_rfl) (by kernel_rfl) (fun _ _ _ _ h => h) (by exact hHeld) (fun K hK => ?_)
      go_simp
      refine hK _ ?_
      clear hK K
      refine take_L (i := 1) rfl (by kernel_rfl) (by kernel_rfl) (by kernel_rfl) (by kernel_rfl) (fun _ _ _ _ h => h) (by exact hHeld) (fun K hK => ?_)
      go_simp
      refine hK _ ?_
      clear hK K
      refine take_L (i := 2) rfl (by kernel_rfl) (by kernel_rfl) (by kernel_rfl) (by kernel_rfl) (fun _ _ _ _ h => h) (by exact hHeld) (fun K hK => ?_)
      go_simp
      refine hK _ ?_
      clear hK K
      refine take_L (i := 3) rfl (by kernel_rfl) (by kernel_rfl) (by kernel_rfl) (by kernel_rfl) (fun _ _ _ _ h => h) (by exact hHeld) (fun K hK => ?_)
      go_simp
      refine hK _ ?_
      clear hK K
      refine take_L (i := 4) rfl (by kernel_rfl) (by kernel_rfl) (by kernel_rfl) (by kernel_rfl) (fun _ _ _ _ h => h) (by exact hHeld) (fun K hK => ?_)
      go_simp
      refine hK _ ?_
      clear hK K
      refine take_L (i := 5) rfl (by kernel_rfl) (by kernel_rfl) (by kernel_rfl) (by kernel_rfl) (fun _ _ _ _ h => h) (by exact hHeld) (fun K hK => ?_)
      go_simp
      refine hK _ ?_
      clear hK K
      refine take_L (i := 6) rfl (by kernel_rfl) (by kernel_rfl) (by kernel_rfl) (by kernel_rfl) (fun _ _ _ _ h => h) (by exact hHeld) (fun K hK => ?_)
      go_simp
      refine hK _ ?_
      clear hK K
      refine take_L (i := 7) rfl (by kernel_rfl) (by kernel_rfl) (by kernel_rfl) (by kernel_rfl) (fun _ _ _ _ h => h) (by exact hHeld) (fun K hK => ?_)
      go_simp
      refine hK _ ?_
      clear hK K
      refine take_L (i := 8) rfl (by kernel_rfl) (by kernel_rfl) (by kernel_rfl) (by kernel_rfl) (fun _ _ _ _ h => h) (by exact hHeld) (fun K hK => ?_)
      go_simp
      refine hK _ ?_
      clear hK K
      refine take_L (i := 9) rfl (by kernel_rfl) (by kernel_rfl) (by kernel_rfl) (by kernel_rfl) (fun _ _ _ _ h => h) (by exact hHeld) (fun K hK => ?_)
      go_simp
      refine hK _ ?_
      clear hK K
      refine take_L (i := 10) rfl (by kernel_rfl) (by kernel_rfl) (by kernel_rfl) (by kernel_rfl) (fun _ _ _ _ h => h) (by exact hHeld) (fun K hK => ?_)
      go_simp
      refine hK _ ?_
      clear hK K
      refine take_L (i := 11) rfl (by kernel_rfl) (by kernel_rfl) (by kernel_rfl) (by kernel_rfl) (fun _ _ _ _ h => h) (by exact hHeld) (fun K hK => ?_)
      go_simp
      refine hK _ ?_
      clear hK K
      refine take_L (i := 12) rfl (by kernel_rfl) (by kernel_rfl) (by kernel_rfl) (by kernel_rfl) (fun _ _ _ _ h => h) (by exact hHeld) (fun K hK => ?_)
      go_simp
      refine hK _ ?_
      clear hK K
      refine take_L (i := 13) rfl (by kernel_rfl) (by kernel_rfl) (by kernel_rfl) (by kernel_rfl) (fun _ _ _ _ h => h) (by exact hHeld) (fun K hK => ?_)
      go_simp
      refine hK _ ?_
      clear hK K
      refine take_L (i := 14) rfl (by kernel_rfl) (by kernel_rfl) (by kernel_rfl) (by kernel_rfl) (fun _ _ _ _ h => h) (by exact hHeld) (fun K hK => ?_)
      go_simp
      refine hK _ ?_
      clear hK K
      refine take_L (i := 15) rfl (by kernel_rfl) (by kernel_rfl) (by kernel_rfl) (by kernel_rfl) (fun _ _ _ _ h => h) (by exact hHeld) (fun K hK => ?_)
      go_simp
      refine hK _ ?_
      clear hK K
      refine take_L (i := 16) rfl (by kernel_rfl) (by kernel_rfl) (by kernel_rfl) (by kernel_rfl) (fun _ _ _ _ h => h) (by exact hHeld) (fun K hK => ?_)
      go_simp
      refine hK _ ?_
      clear hK K
      refine take_L (i := 17) rfl (by kernel_rfl) (by kernel_rfl) (by kernel_rfl) (by kernel_rfl) (fun _ _ _ _ h => h) (by exact hHeld) (fun K hK => ?_)
      go_simp
      refine hK _ ?_
      clear hK K
      refine take_L (i := 18) rfl (by kernel_rfl) (by kernel_rfl) (by kernel_rfl) (by kernel_rfl) (fun _ _ _ _ h => h) (by exact hHeld) (fun K hK => ?_)
      go_simp
      refine hK _ ?_
      clear hK K
      refine take_L (i := 19) rfl (by kernel_rfl) (by kernel_rfl) (by kernel_rfl) (by kernel_rfl) (fun _ _ _ _ h => h) (by exact hHeld) (fun K hK => ?_)
      go_simp
      refine hK _ ?_
      clear hK K
      refine take_L (i := 20) rfl (by kernel_rfl) (by kernel_rfl) (by kernel_rfl) (by kernel_rfl) (fun _ _ _ _ h => h) (by exact hHeld) (fun K hK => ?_)
      go_simp
      refine hK _ ?_
      clear hK K
      refine take_L (i := 21) rfl (by kernel_rfl) (by kernel_rfl) (by kernel_rfl) (by kernel_rfl) (fun _ _ _ _ h => h) (by exact hHeld) (fun K hK => ?_)
      go_simp
      refine hK _ ?_
      clear hK K
      refine take_L (i := 22) rfl (by kernel_rfl) (by kernel_rfl) (by kernel_rfl) (by kernel_rfl) (fun _ _ _ _ h => h) (by exact hHeld) (fun K hK => ?_)
      go_simp
      refine hK _ ?_
      clear hK K
      refine take_L (i := 23) rfl (by kernel_rfl) (by kernel_rfl) (by kernel_rfl) (by kernel_rfl) (fun _ _ _ _ h => h) (by exact hHeld) (fun K hK => ?_)
      go_simp
      refine hK _ ?_
      clear hK K
      refine take_L (i := 24) rfl (by kernel_rfl) (by kernel_rfl) (by kernel_rfl) (by kernel_rfl) (fun _ _ _ _ h => h) (by exact hHeld) (fun K hK => ?_)
      go_simp
      refine hK _ ?_
      clear hK K
      refine take_L (i := 25) rfl (by kernel_rfl) (by kernel_rfl) (by kernel_rfl) (by kernel_rfl) (fun _ _ _ _ h => h) (by exact hHeld) (fun K hK => ?_)
      go_simp
      refine hK _ ?_
      clear hK K
      refine one_L (i := 26) (by kernel_rfl) rfl (fun K hK => ?_)
      refine step_bytes rfl (.tmp 43) rfl (some ⟨qb, 0, none⟩) 32 qc bb rfl (HBy.out.later Hba.out) (by omega) (by omega) ?_
      intro pc w2 hB2 hb2 hlt2
      obtain ⟨pa, hpa⟩ : ∃ pa, pa = some (⟨va.heap.size, 0, none⟩ : Addr) := ⟨_, rfl⟩
      rw [← hpa] at hB2 ⊢
      have Hpa : Hid (pa = some (⟨va.heap.size, 0, none⟩ : Addr)) := hpa
      have HC2 : Hid (Bytes w2 pa 32 bb) := hB2
      have Hb2 : Hid (Below va.heap.size va w2) := hb2
      have HN2 : Hid (Below w.heap.size w w2) := Hba.out.trans (hb2.mono Hba.out.size)
      have hh2 := cell_on hb2 hh0
      clear hB2 hb2 hlt2 hpa
      replace hHeld : (fun w' => Below w.heap.size w w' ∧ w'.cell? ⟨w.heap.size, 0, none⟩ = some (.slice a' j c')) _ := ⟨HN2.out, hh2⟩
      refine hK.out _ _ (fun _ => hHeld) ?_
      clear hK K
      refine take_L (i := 27) rfl (by kernel_rfl) (by kernel_rfl) (by kernel_rfl) (by kernel_rfl) (fun _ _ _ _ h => h) (by exact hHeld) (fun K hK => ?_)
      go_simp
      refine hK _ ?_
      clear hK K
      refine one_L (i := 28) (by kernel_rfl) rfl (fun K hK => ?_)
      go_simp
      have hw3 : (w2.alloc (.cells #[.int .i64 f1, .int .i64 f2, .int .i64 f3, .int .i64 bi, .slice pa 32 pc] 72)).heap[w2.heap.size]? = some (.cells [.int .i64 f1, .int .i64 f2, .int .i64 f3, .int .i64 bi, .slice pa 32 pc].toArray 72 (0, 0)) := heap_alloc_new w2 _
      have hs3 : (w2.alloc (.cells #[.int .i64 f1, .int .i64 f2, .int .i64 f3, .int .i64 bi, .slice pa 32 pc] 72)).heap.size = w2.heap.size + 1 := World.size_alloc ..
      have hb3 : Below w2.heap.size w2 (w2.alloc (.cells #[.int .i64 f1, .int .i64 f2, .int .i64 f3, .int .i64 bi, .slice pa 32 pc] 72)) := (Below.refl _ _).alloc (Nat.le_refl _) _
      obtain ⟨w3, e3⟩ : ∃ x, x = w2.alloc (.cells #[.int .i64 f1, .int .i64 f2, .int .i64 f3, .int .i64 bi, .slice pa 32 pc] 72) := ⟨_, rfl⟩
      rw [← e3] at hw3 hs3 hb3 ⊢
      have E3 : Hid (w3 = w2.alloc (.cells #[.int .i64 f1, .int .i64 f2, .int .i64 f3, .int .i64 bi, .slice pa 32 pc] 72)) := e3
      have HR3 : Hid (w3.ownsRow 0 72 5 (.slice a' j c') j (rowOf (S.l.take j) q')) := ownsRow_same Hrow.out (fun b e => by have := HO.out b (by rw [e]; rfl); rw [hb3.block b (by have := Hb2.out.size; omega)]; exact Hb2.out.block b this.1)
      have HN3 : Hid (∀ j u, [Value.int .i64 f1, .int .i64 f2, .int .i64 f3, .int .i64 bi, .slice pa 32 pc][j]? = some u → w3.cell? ((⟨w2.heap.size, 0, none⟩ : Addr).add j) = some u) := World.news_of_block hw3
      have HW3 : Hid (Below w.heap.size w w3) := HN2.out.trans (hb3.mono HN2.out.size)
      have hh3 := cell_on hb3 hh2
      clear e3 hb3 hw3
      replace hHeld : (fun w' => Below w.heap.size w w' ∧ w'.cell? ⟨w.heap.size, 0, none⟩ = some (.slice a' j c')) _ := ⟨HW3.out, hh3⟩
      refine hK.out _ _ (fun _ => hHeld) ?_
      clear hK K
      refine one_L (i := 29) (by kernel_rfl) rfl (fun K hK => ?_)
      refine step_append_lies _ rfl (.tmp 19) (.tmp 46) 60 rfl 0 72 i72 _ 5 56 Try.underlying60 hi72 hz0 hz1 hz2 rfl (by decide) (.slice a' j c') j (rowOf (S.l.take j) q') rfl HR3.out ⟨w2.heap.size, 0, none⟩ 1 1 [.int .i64 f1, .int .i64 f2, .int .i64 f3, .int .i64 bi, .slice pa 32 pc] rfl rfl HN3.out (by simp [Value.oneCell']) (by omega) (by unfold maxLen; omega) (by omega) (Nat.zero_le _) (w2.heap.size + 1) hs3 ?_
      intro b' cp w4 hown4 hgr4 hat4 hlt4
      have hne4 : Value.ownBlock (.slice a' j c') ≠ some w.heap.size := fun e => by have := HO.out _ e; omega
      have hh4 : w4.cell? ⟨w.heap.size, 0, none⟩ = some (.slice a' j c') := by rw [← hh3]; exact World.cell?_of_block (a := ⟨w.heap.size, 0, none⟩) (hgr4.block _ (World.block_lt_of_cell? w3 _ hh3) (fun e => hne4 e.symm))
      have hbl4 : Below w.heap.size w w4 := HW3.out.grown hgr4 HW3.out.size (fun k hk => by have := HO.out k hk; omega)
      have H4 : Hid (Below w.heap.size w w4) := hbl4
      have hhd : w4.heap[w.heap.size]? = some (.cells #[.slice a' j c', .bool S.out, .bool S.armed, .int .i64 S.left, .int .i64 S.writes] 62 (0, 0)) := by
        rw [hgr4.block w.heap.size (World.block_lt_of_cell? w3 _ hh3) (fun e => hne4 e.symm), E3.out, heap_alloc_old w2 _ (by have := Hb2.out.size; omega), Hb2.out.block _ hgl]
        have := Hhead.out
        simp only [HtL.out] at this
        exact this
      have f4 : w4.frozen? ⟨w.heap.size, 0, none⟩ = false := frozen_of_row w4 w.heap.size 0 _ 62 hhd
      have Hl' : Hid ((S.l.take j).length < 1000000) := by have := HtL.out; show (S.l.take j).length < 1000000; omega
      rw [E3.out] at hgr4
      have HG4 := HRD.out.grown (w2 := w2) (w4 := w4) (p := va.heap.size) (cp := pc) (f := (f1, f2, f3)) (i := bi) (bs := bb) Hb2.out (Nat.le_refl _) (by have := HC2.out; rw [Hpa.out] at this; exact this) (b' := b') (cap := cp) (by have := hown4; rw [Hpa.out] at this; simp only [HtL.out]; exact this) (by simp only [HtL.out]; exact hgr4) (by simp only [HtL.out]; exact hat4) hlt4 Hok.out Hl'.out
      simp only [HtL.out] at HG4
      have HPn : Hid (Part w S (j + 1) (some ⟨b', 0, none⟩) cp (w4.setCell ⟨w.heap.size, 0, none⟩ (.slice (some ⟨b', 0, none⟩) (j + 1) cp))) := by
        refine ⟨q' ++ [(va.heap.size, pc)], ?_⟩
        rw [Hnext.out]
        refine HG4.1.more (fun k hk => ?_)
        rcases hk with h | h
        · exact ⟨h.1, by rw [World.size_setCell]; have := hgr4.size; rw [World.size_alloc] at this; have := Hb2.out.size; omega⟩
        · exact ⟨by omega, h.2⟩
      clear HG4 hhd hown4 hgr4 hat4 hlt4
      replace hHeld : (fun w' => Below w.heap.size w w' ∧ w'.cell? ⟨w.heap.size, 0, none⟩ = some (.slice a' j c')) _ := ⟨H4.out, hh4⟩
      refine hK.out _ _ (fun _ => hHeld) ?_
      clear hK K
      refine take_L (i := 30) rfl (by kernel_rfl) (by kernel_rfl) (by kernel_rfl) (by kernel_rfl) (fun _ _ _ _ h => h) (by exact hHeld) (fun K hK => ?_)
      go_simp
      refine hK _ ?_
      clear hK K
      refine one_L (i := 31) (by kernel_rfl) rfl (fun K hK => ?_)
      go_simp
      refine hK.out _ _ (fun h => absurd rfl h) ?_
      clear hK K
      refine done_L (by kernel_rfl) ?_ _
      have Hn4 : Hid (Below w.heap.size w (w4.setCell ⟨w.heap.size, 0, none⟩ (.slice (some ⟨b', 0, none⟩) (j + 1) cp))) := H4.out.setCell (p := ⟨w.heap.size, 0, none⟩) (Nat.le_refl _) _
      clear hHeld hne k0 k1 k2 k3 k4 k5 k6 H4 HR3 HN3 HW3 HN2 E3 Hb2 HC2 HRD Hrow Hhead Hba HO hne4
      generalize w4.setCell ⟨w.heap.size, 0, none⟩ (.slice (some ⟨b', 0, none⟩) (j + 1) cp) = w5 at *
      go_wp2
      go_roundw
      case rel => exact ⟨j + 1, _, _, by omega, by go_num, HPn.out, Hn4.out⟩
      case measure => simp [intOf]; omega
    · obtain rfl : j = N := by omega
      have R := HP.out wr a' c' HC.out Hb.out
      clear HP HC Hb HD
      go_wp2
      exact R
end Go.Proofs.Ytjkeejbfipmidaa
