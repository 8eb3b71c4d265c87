/-
  The document's Apply.
-/
import Derived.Test.YtbcadklodjdokaaWpre
set_option maxRecDepth 20000
namespace Go.Proofs.Ytbcadklodjdokaa
open C Go.RowKit

/-- What the document's Apply answers. -/
def RapSay (S : Nat) (cx cz : Int) (bs : List Int) (w : World) (e : Ending) (w' : World) : Prop :=
  Below w.heap.size w w' ∧ ∃ og oc, e = .returned (.slice (some ⟨og, 0, none⟩) 32768 oc) ∧ Pre w' og 5 (applyN S cx cz bs)
theorem Pre.ne {w : World} {b b' : Nat} {cs : List Int} {a : Array Value} {t : TypeId} (h : Pre w b 5 cs) (h' : w.heap[b']? = some (.cells a t (0, 0))) (ht : t ≠ 5) : b' ≠ b := fun e => by
  subst e
  obtain ⟨cur, hc, _⟩ := h
  rw [hc] at h'
  injection h' with h'
  injection h' with _ h' _
  exact ht h'.symm
set_option maxRecDepth 1000000 in
set_option maxHeartbeats 4000000 in
theorem rapply_c (S : Nat) (cx cz : Int) (bg cap : Nat) (bs : List Int) (w : World) (hS : S < 18446744073709551616) (hx : Far 1073741824 cx) (hz : Far 1073741824 cz) (hB : Pre w bg 5 bs) (hl : bs.length = 32768) (hk : Kinds bs) :
    Calls Try.prog 15 #[.int .u64 S, .agg #[.int .i64 cx, .int .i64 cz], .slice (some ⟨bg, 0, none⟩) 32768 cap] w (RapSay S cx cz bs w) := by
  obtain ⟨Post, hPost⟩ : ∃ Post : Ending → World → Prop, Post = RapSay S cx cz bs w := ⟨_, rfl⟩
  rw [← hPost]
  have HPost : Hid (∀ e w', RapSay S cx cz bs w e w' → Post e w') := fun e w' h => by rw [hPost]; exact h
  clear hPost
  obtain ⟨cx0, cx1⟩ := hx
  obtain ⟨cz0, cz1⟩ := hz
  have HBs : Hid (Pre w bg 5 bs ∧ bs.length = 32768 ∧ Kinds bs) := ⟨hB, hl, hk⟩
  have HP1 : Hid (Pre (w.alloc (.cells #[.int .i64 cx, .int .i64 cz] 30)) bg 5 bs) := hB.below ((Below.refl _ w).alloc (Nat.le_refl _) _) hB.lt
  have HB1 : Hid (Below w.heap.size w (w.alloc (.cells #[.int .i64 cx, .int .i64 cz] 30))) := (Below.refl _ w).alloc (Nat.le_refl _) _
  have HX1 : Hid ((w.alloc (.cells #[.int .i64 cx, .int .i64 cz] 30)).heap[w.heap.size]? = some (.cells #[.int .i64 cx, .int .i64 cz] 30 (0, 0))) := heap_alloc_new w _
  have Hsz : Hid (w.heap.size < (w.alloc (.cells #[.int .i64 cx, .int .i64 cz] 30)).heap.size) := by show _ < _; simp
  clear hB hl hk
  go_enter Try.func15, Try.ntmps15
  go_wp2_with (at_builtin; refine wpList_append_copy rfl _ _ rfl bg cap bs HBs.out.2.1 HP1.out rfl rfl ?_; intro og oc w3 hPre hb3 hog)
  have HB3 : Hid (Below w.heap.size w w3) := HB1.out.trans (hb3.mono HB1.out.size)
  have HX3 : Hid (w3.heap[w.heap.size]? = some (.cells #[.int .i64 cx, .int .i64 cz] 30 (0, 0))) := (hb3.block _ Hsz.out).trans HX1.out
  have Hog : Hid (w.heap.size < og) := Nat.lt_of_lt_of_le Hsz.out hog
  have HP3 : Hid (Pre w3 og 5 bs) := hPre
  clear hPre hb3 hog HP1 HB1 HX1 Hsz
  go_loopw [8] (fun vi wr => ∃ (I : Nat), I ≤ 288 ∧ vi = .int .i64 ((I : Int) - 1) ∧ Hid (∃ zs, Painted S cx cz bs I zs ∧ Pre wr og 5 zs) ∧ Hid (wr.heap[w.heap.size]? = some (.cells #[.int .i64 cx, .int .i64 cz] 30 (0, 0))) ∧ Hid (Below w.heap.size w wr)) (fun vi _ => ((intOf vi) + 1).toNat)
  case atStart => exact ⟨288, by omega, rfl, ⟨bs, Painted.init S cx cz HBs.out.2.1, HP3.out⟩, HX3, HB3⟩
  case round =>
    clear HX3 HB3 HP3
    obtain ⟨I, hI, rfl, HZ, HX, HB⟩ := hrel
    rcases I with _ | n
    · obtain ⟨zs, hp, hP⟩ := HZ.out
      have R := HPost.out _ wr (show RapSay S cx cz bs w (.returned (.slice (some ⟨og, 0, none⟩) 32768 oc)) wr from ⟨HB.out, og, oc, rfl, by rw [← hp.done]; exact hP⟩)
      clear HPost HZ HX HB hp hP
      have hneg : ¬ (0 : Int) ≤ ((0 : Nat) : Int) - 1 := by omega
      go_wp2
      exact R
    rw [show ((n + 1 : Nat) : Int) - 1 = (n : Int) by omega]
    have hn : n < 288 := by omega
    have hn' : (0 : Int) ≤ (n : Int) := by omega
    obtain ⟨A, hA⟩ : ∃ A : Int, cx * 2 + (n : Int) % 4 - 1 = A := ⟨_, rfl⟩
    obtain ⟨B, hB⟩ : ∃ B : Int, (n : Int) / 16 - 1 = B := ⟨_, rfl⟩
    obtain ⟨D, hD⟩ : ∃ D : Int, cz * 2 + (n : Int) / 4 % 4 - 1 = D := ⟨_, rfl⟩
    have hat := fun w => rat_c S A B D w hS (by unfold Far; omega) (by unfold Far; omega) (by unfold Far; omega)
    have HC : Hid (∀ x y z, c288 S cx cz x y z n = covH (R.hashN S 30 A B D) A B D x y z) := fun x y z => by unfold c288 covN; rw [hA, hB, hD]
    have HO : Hid (o288 S cx cz n = vOre (R.hashN S 30 A B D)) := by show _ = _; unfold o288 oreN; rw [hA, hB, hD]
    have bA : Far 1099511627776 (8 * A + 7) ∧ Far 1099511627776 (8 * A) := by unfold Far; omega
    have bB : Far 1099511627776 (8 * B + 7) ∧ Far 1099511627776 (8 * B) := by unfold Far; omega
    have bD : Far 1099511627776 (8 * D + 7) ∧ Far 1099511627776 (8 * D) := by unfold Far; omega
    generalize R.hashN S 30 A B D = h at *
    have hfa : Far 1099511627776 (vX h A) := by have := vX_bd h A; unfold Far at *; omega
    have hfb : Far 1099511627776 (vY h B) := by have := vY_bd h B; unfold Far at *; omega
    have hfd : Far 1099511627776 (vZ h D) := by have := vZ_bd h D; unfold Far at *; omega
    have k0 : wr.cell? ⟨w.heap.size, 0, none⟩ = some (.int .i64 cx) := (cell_of_row wr w.heap.size 0 _ 30 (0, 0) HX.out).trans rfl
    have k1 : wr.cell? ⟨w.heap.size, 1, none⟩ = some (.int .i64 cz) := (cell_of_row wr w.heap.size 1 _ 30 (0, 0) HX.out).trans rfl
    go_wp2_with fail
    refine (hat _).mono ?_
    clear hat hA hB hD k0 k1 bA bB bD
    rintro _ w2 hsay
    obtain ⟨hb2, rfl⟩ := hsay
    have HB2 : Hid (Below w.heap.size w w2) := HB.out.trans (hb2.mono HB.out.size)
    have HX2 : Hid (w2.heap[w.heap.size]? = some (.cells #[.int .i64 cx, .int .i64 cz] 30 (0, 0))) := (hb2.block _ (Array.getElem?_eq_some_iff.1 HX.out).1).trans HX.out
    have HZ2 : Hid (∃ zs, Painted S cx cz bs (n + 1) zs ∧ Pre w2 og 5 zs) := by
      obtain ⟨zs, h1, h2⟩ := HZ.out
      exact ⟨zs, h1, h2.below hb2 h2.lt⟩
    clear hb2 HB HX HZ
    by_cases hv : vHas h = true
    case neg =>
      have hv' : vHas h = false := by simpa using hv
      have HB3 : Hid (Below w.heap.size w (w2.alloc (.cells noVein 58))) := HB2.out.alloc HB2.out.size _
      have HX3 : Hid ((w2.alloc (.cells noVein 58)).heap[w.heap.size]? = some (.cells #[.int .i64 cx, .int .i64 cz] 30 (0, 0))) := (heap_alloc_old w2 _ (Array.getElem?_eq_some_iff.1 HX2.out).1).trans HX2.out
      have HZ3 : Hid (∃ zs, Painted S cx cz bs n zs ∧ Pre (w2.alloc (.cells noVein 58)) og 5 zs) := by
        obtain ⟨zs, h1, h2⟩ := HZ2.out
        refine ⟨zs, h1.skip hn (fun x y z => ?_), h2.below ((Below.refl _ _).alloc (Nat.le_refl _) _) h2.lt⟩
        rw [HC.out]
        unfold covH
        rw [hv']
        rfl
      rw [hv', if_neg (by decide)]
      unfold noVein at HB3 HX3 HZ3 ⊢
      clear HC HO HB2 HX2 HZ2 hv hv' HPost
      go_wp2
      exact ⟨⟨n, by omega, by simp, HZ3, HX3, HB3⟩, by simp [intOf]⟩
    rw [hv, if_pos rfl]
    have HB3 : Hid (Below w.heap.size w (w2.alloc (.cells (vein h A B D) 58))) := HB2.out.alloc HB2.out.size _
    have HX3 : Hid ((w2.alloc (.cells (vein h A B D) 58)).heap[w.heap.size]? = some (.cells #[.int .i64 cx, .int .i64 cz] 30 (0, 0))) := (heap_alloc_old w2 _ (Array.getElem?_eq_some_iff.1 HX2.out).1).trans HX2.out
    have HV3 : Hid ((w2.alloc (.cells (vein h A B D) 58)).heap[w2.heap.size]? = some (.cells (vein h A B D) 58 (0, 0))) := heap_alloc_new w2 _
    have HC2 : Hid (∀ x y z, c288 S cx cz x y z n = decide (awayN (vX h A) (vY h B) (vZ h D) x y z ≤ vReach h)) := fun x y z => by have := HC.out x y z; unfold covH at this; rw [hv] at this; exact this
    obtain ⟨zs, hpz, hPz⟩ := HZ2.out
    have HZ3 : Hid (Pre (w2.alloc (.cells (vein h A B D) 58)) og 5 zs) := hPz.below ((Below.refl _ _).alloc (Nat.le_refl _) _) hPz.lt
    have HPz : Hid (Painted S cx cz bs (n + 1) zs) := hpz
    have HR : Hid (1 ≤ vReach h ∧ vReach h ≤ 2) := vReach_bd h
    have ho := vOre_bd h
    unfold vein at HB3 HX3 HV3 HZ3 ⊢
    generalize vX h A = mx at *
    generalize vY h B = my at *
    generalize vZ h D = mz at *
    generalize vReach h = mr at *
    generalize vOre h = mo at *
    obtain ⟨o0, o1⟩ := ho
    obtain ⟨mx0, mx1⟩ := hfa
    obtain ⟨my0, my1⟩ := hfb
    obtain ⟨mz0, mz1⟩ := hfd
    clear HC HB2 HX2 HZ2 hv hpz hPz
    go_wp2_with fail
    generalize w2.alloc _ = W at *
    generalize w2.heap.size = vb at *
    clear w2
    have Hvb : Hid (og ≠ vb) := fun e => HZ3.out.ne HV3.out (by decide) e.symm
    clear wr
    go_loopw [11] (fun vk wr => ∃ (K : Nat), K ≤ 125 ∧ vk = .int .i64 (K : Int) ∧ Hid (∃ ys, Mid cx cz mx my mz mr mo bs zs K ys ∧ Pre wr og 5 ys) ∧ Hid (wr.heap[w.heap.size]? = some (.cells #[.int .i64 cx, .int .i64 cz] 30 (0, 0))) ∧ Hid (wr.heap[vb]? = some (.cells #[.int .i64 mo, .int .i64 mx, .int .i64 my, .int .i64 mz, .int .i64 mr] 58 (0, 0))) ∧ Hid (Below w.heap.size w wr)) (fun vk _ => 125 - (intOf vk).toNat)
    case atStart => exact ⟨0, by omega, rfl, ⟨zs, Mid.init HPz.out.1 HR.out.2, HZ3.out⟩, HX3, HV3, HB3⟩
    case round =>
      clear HX3 HV3 HB3 HZ3
      obtain ⟨K, hK, rfl, HY, HX, HV, HB⟩ := hrel
      obtain ⟨ys, hmid, hPy⟩ := HY.out
      by_cases hlt : K < 125
      case neg =>
        have hge : ¬ (K : Int) < 125 := by omega
        obtain rfl : K = 125 := by omega
        have HZ4 : Hid (∃ zs, Painted S cx cz bs n zs ∧ Pre wr og 5 zs) := ⟨ys, HPz.out.step hn HR.out.2 hmid HC2.out HO.out, hPy⟩
        clear HPost HY hmid hPy HPz HV HC2 HO
        go_wp2
        exact ⟨⟨n, by omega, by simp, HZ4, HX, HB⟩, by simp [intOf]⟩
      have hlt' : (K : Int) < 125 := by omega
      have HM : Hid (Mid cx cz mx my mz mr mo bs zs K ys) := hmid
      obtain ⟨PX, hPX⟩ : ∃ P : Int, mx + (K : Int) % 5 - 2 = P := ⟨_, rfl⟩
      obtain ⟨PY, hPY⟩ : ∃ P : Int, my + (K : Int) / 25 - 2 = P := ⟨_, rfl⟩
      obtain ⟨PZ, hPZ⟩ : ∃ P : Int, mz + (K : Int) / 5 % 5 - 2 = P := ⟨_, rfl⟩
      have v1 : wr.cell? ⟨vb, 1, none⟩ = some (.int .i64 mx) := (cell_of_row wr vb 1 _ 58 (0, 0) HV.out).trans rfl
      have v2 : wr.cell? ⟨vb, 2, none⟩ = some (.int .i64 my) := (cell_of_row wr vb 2 _ 58 (0, 0) HV.out).trans rfl
      have v3 : wr.cell? ⟨vb, 3, none⟩ = some (.int .i64 mz) := (cell_of_row wr vb 3 _ 58 (0, 0) HV.out).trans rfl
      have HB1 : Hid (Below w.heap.size w (wr.alloc (.cells #[.int .i64 PX, .int .i64 PY, .int .i64 PZ] 24))) := HB.out.alloc HB.out.size _
      have HX1 : Hid ((wr.alloc (.cells #[.int .i64 PX, .int .i64 PY, .int .i64 PZ] 24)).heap[w.heap.size]? = some (.cells #[.int .i64 cx, .int .i64 cz] 30 (0, 0))) := (heap_alloc_old wr _ (Array.getElem?_eq_some_iff.1 HX.out).1).trans HX.out
      have HV1 : Hid ((wr.alloc (.cells #[.int .i64 PX, .int .i64 PY, .int .i64 PZ] 24)).heap[vb]? = some (.cells #[.int .i64 mo, .int .i64 mx, .int .i64 my, .int .i64 mz, .int .i64 mr] 58 (0, 0))) := (heap_alloc_old wr _ (Array.getElem?_eq_some_iff.1 HV.out).1).trans HV.out
      have HP1 : Hid (Pre (wr.alloc (.cells #[.int .i64 PX, .int .i64 PY, .int .i64 PZ] 24)) og 5 ys) := hPy.below ((Below.refl _ _).alloc (Nat.le_refl _) _) hPy.lt
      have HD1 : Hid ((wr.alloc (.cells #[.int .i64 PX, .int .i64 PY, .int .i64 PZ] 24)).heap[wr.heap.size]? = some (.cells #[.int .i64 PX, .int .i64 PY, .int .i64 PZ] 24 (0, 0))) := heap_alloc_new wr _
      have hpx : Far 1125899906842624 PX := by unfold Far; omega
      have hpy : Far 1125899906842624 PY := by unfold Far; omega
      have hpz : Far 1125899906842624 PZ := by unfold Far; omega
      have hind := fun w => rindex_c PX PY PZ (by unfold Far at hpx; omega) (by unfold Far at hpx; omega) (by unfold Far at hpz; omega) (by unfold Far at hpz; omega) w
      have Haw : Hid (∀ w, Calls Try.prog 26 #[.agg #[.int .i64 mx, .int .i64 my, .int .i64 mz], .agg #[.int .i64 PX, .int .i64 PY, .int .i64 PZ]] w fun e w' => e = .returned (.int .i64 (awayN mx my mz PX PY PZ)) ∧ Below w.heap.size w w') := fun w => raway_c mx my mz PX PY PZ w (by unfold Far; omega) (by unfold Far; omega) (by unfold Far; omega) hpx hpy hpz
      have Hch : Hid (∀ w, Calls Try.prog 35 #[.agg #[.int .i64 PX, .int .i64 PY, .int .i64 PZ]] w fun e w' => e = .returned (.agg #[.int .i64 (PX / 16), .int .i64 (PZ / 16)]) ∧ Below w.heap.size w w') := fun w => rchunk_c PX PY PZ (by unfold Far at hpx; omega) (by unfold Far at hpx; omega) (by unfold Far at hpz; omega) (by unfold Far at hpz; omega) w
      clear HY hmid hPy HX HV HB hpx hpy hpz
      go_wp2_with fail
      refine (hind _).mono ?_
      clear hind v1 v2 v3
      rintro _ w5 ⟨rfl, hb5⟩
      have HB3 : Hid (Below w.heap.size w w5) := HB1.out.trans (hb5.mono HB1.out.size)
      have HX3 : Hid (w5.heap[w.heap.size]? = some (.cells #[.int .i64 cx, .int .i64 cz] 30 (0, 0))) := (hb5.block _ (Array.getElem?_eq_some_iff.1 HX1.out).1).trans HX1.out
      have HV3 : Hid (w5.heap[vb]? = some (.cells #[.int .i64 mo, .int .i64 mx, .int .i64 my, .int .i64 mz, .int .i64 mr] 58 (0, 0))) := (hb5.block _ (Array.getElem?_eq_some_iff.1 HV1.out).1).trans HV1.out
      have HP3 : Hid (Pre w5 og 5 ys) := HP1.out.below hb5 HP1.out.lt
      have hD5 : w5.heap[wr.heap.size]? = some (.cells #[.int .i64 PX, .int .i64 PY, .int .i64 PZ] 24 (0, 0)) := (hb5.block _ (Array.getElem?_eq_some_iff.1 HD1.out).1).trans HD1.out
      generalize wr.heap.size = pb at *
      have hsome := since_some w5
      have k0 := fun s : Since w5 => Since.cell ((cell_of_row w5 pb 0 _ 24 (0, 0) hD5).trans rfl) s
      have k1 := fun s : Since w5 => Since.cell ((cell_of_row w5 pb 1 _ 24 (0, 0) hD5).trans rfl) s
      have k2 := fun s : Since w5 => Since.cell ((cell_of_row w5 pb 2 _ 24 (0, 0) hD5).trans rfl) s
      have v1 := fun s : Since w5 => Since.cell ((cell_of_row w5 vb 1 _ 58 (0, 0) HV3.out).trans rfl) s
      have v2 := fun s : Since w5 => Since.cell ((cell_of_row w5 vb 2 _ 58 (0, 0) HV3.out).trans rfl) s
      have v3 := fun s : Since w5 => Since.cell ((cell_of_row w5 vb 3 _ 58 (0, 0) HV3.out).trans rfl) s
      have v4 := fun s : Since w5 => Since.cell ((cell_of_row w5 vb 4 _ 58 (0, 0) HV3.out).trans rfl) s
      have x0 := fun s : Since w5 => Since.cell ((cell_of_row w5 w.heap.size 0 _ 30 (0, 0) HX3.out).trans rfl) s
      have x1 := fun s : Since w5 => Since.cell ((cell_of_row w5 w.heap.size 1 _ 30 (0, 0) HX3.out).trans rfl) s
      have Hd : Hid (∀ j, j < 32768 → jx cx j = PX → jy j = PY → jz cz j = PZ → indexN PX PY PZ = j ∧ PX / 16 = cx ∧ PZ / 16 = cz) := fun j hj e1 e2 e3 => j_index hj e1 e2 e3
      clear hb5 HB1 HX1 HV1 HP1 HD1 hD5
      obtain ⟨aw, hawe⟩ : ∃ a : Int, awayN mx my mz PX PY PZ = a := ⟨_, rfl⟩
      have Hawe : Hid (awayN mx my mz PX PY PZ = aw) := hawe
      rw [hawe] at Haw
      clear hawe
      obtain ⟨T, hTe⟩ : ∃ t : Int, indexN PX PY PZ = t := ⟨_, rfl⟩
      rw [hTe]
      have HT : Hid (indexN PX PY PZ = T) := hTe
      clear hTe
      obtain ⟨QX, hQX⟩ : ∃ q : Int, PX / 16 = q := ⟨_, rfl⟩
      obtain ⟨QZ, hQZ⟩ : ∃ q : Int, PZ / 16 = q := ⟨_, rfl⟩
      rw [hQX, hQZ] at Hch
      have HQ : Hid (PX / 16 = QX ∧ PZ / 16 = QZ) := ⟨hQX, hQZ⟩
      clear hQX hQZ
      go_wp2_with fail
      by_cases q1 : aw ≤ mr
      case neg =>
        have q1' : decide (aw ≤ mr) = false := decide_eq_false q1
        have HM2 : Hid (Mid cx cz mx my mz mr mo bs zs (K + 1) ys) := HM.out.no HR.out.2 (fun j hj e1 e2 e3 hn => by
          rw [hPX] at e1
          rw [hPY] at e2
          rw [hPZ] at e3
          exfalso
          have hn' : awayN mx my mz (jx cx j) (jy j) (jz cz j) ≤ mr := hn
          rw [e1, e2, e3, Hawe.out] at hn'
          exact q1 hn')
        clear HM Hd hPX hPY hPZ q1 Hawe HT HQ
        refine wp_region_since (by kernel_rfl) (by kernel_rfl) ?_
        repeat (go_big_quiet_step (first | (go_at_call 26; exact Calls.since (Haw.out _)) | (go_at_call 35; exact Calls.since (Hch.out _))))
        refine wpQuiet_nil ?_
        rintro _ ⟨s, rfl⟩
        have HB4 : Hid (Below w.heap.size w s.w) := HB3.out.trans (s.bel.mono HB3.out.size)
        have HX4 : Hid (s.w.heap[w.heap.size]? = some (.cells #[.int .i64 cx, .int .i64 cz] 30 (0, 0))) := (s.bel.block _ (Array.getElem?_eq_some_iff.1 HX3.out).1).trans HX3.out
        have HV4 : Hid (s.w.heap[vb]? = some (.cells #[.int .i64 mo, .int .i64 mx, .int .i64 my, .int .i64 mz, .int .i64 mr] 58 (0, 0))) := (s.bel.block _ (Array.getElem?_eq_some_iff.1 HV3.out).1).trans HV3.out
        have HP4 : Hid (Pre s.w og 5 ys) := HP3.out.below s.bel HP3.out.lt
        generalize s.w = W4 at *
        clear HB3 HX3 HV3 HP3 hsome k0 k1 k2 v1 v2 v3 v4 x0 x1 Haw Hch
        clear HPost
        go_wp2
        exact ⟨⟨K + 1, by omega, by simp, ⟨ys, HM2.out, HP4.out⟩, HX4, HV4, HB4⟩, by simp [intOf]; omega⟩
      have q1' : decide (aw ≤ mr) = true := decide_eq_true q1
      by_cases q2 : 0 ≤ T
      case neg =>
        have q2' : decide (0 ≤ T) = false := decide_eq_false q2
        have HM2 : Hid (Mid cx cz mx my mz mr mo bs zs (K + 1) ys) := HM.out.no HR.out.2 (fun j hj e1 e2 e3 hn => by
          rw [hPX] at e1
          rw [hPY] at e2
          rw [hPZ] at e3
          exfalso
          have := (Hd.out j hj e1 e2 e3).1
          rw [HT.out] at this
          omega)
        clear HM Hd hPX hPY hPZ q1 q2 Hawe HT HQ
        refine wp_region_since (by kernel_rfl) (by kernel_rfl) ?_
        repeat (go_big_quiet_step (first | (go_at_call 26; exact Calls.since (Haw.out _)) | (go_at_call 35; exact Calls.since (Hch.out _))))
        refine wpQuiet_nil ?_
        rintro _ ⟨s, rfl⟩
        have HB4 : Hid (Below w.heap.size w s.w) := HB3.out.trans (s.bel.mono HB3.out.size)
        have HX4 : Hid (s.w.heap[w.heap.size]? = some (.cells #[.int .i64 cx, .int .i64 cz] 30 (0, 0))) := (s.bel.block _ (Array.getElem?_eq_some_iff.1 HX3.out).1).trans HX3.out
        have HV4 : Hid (s.w.heap[vb]? = some (.cells #[.int .i64 mo, .int .i64 mx, .int .i64 my, .int .i64 mz, .int .i64 mr] 58 (0, 0))) := (s.bel.block _ (Array.getElem?_eq_some_iff.1 HV3.out).1).trans HV3.out
        have HP4 : Hid (Pre s.w og 5 ys) := HP3.out.below s.bel HP3.out.lt
        generalize s.w = W4 at *
        clear HB3 HX3 HV3 HP3 hsome k0 k1 k2 v1 v2 v3 v4 x0 x1 Haw Hch
        clear HPost
        go_wp2
        exact ⟨⟨K + 1, by omega, by simp, ⟨ys, HM2.out, HP4.out⟩, HX4, HV4, HB4⟩, by simp [intOf]; omega⟩
      have q2' : decide (0 ≤ T) = true := decide_eq_true q2
      by_cases q3 : QX = cx
      case neg =>
        have q3' : (QX == cx) = false := by simpa using q3
        have HM2 : Hid (Mid cx cz mx my mz mr mo bs zs (K + 1) ys) := HM.out.no HR.out.2 (fun j hj e1 e2 e3 hn => by
          rw [hPX] at e1
          rw [hPY] at e2
          rw [hPZ] at e3
          exfalso
          exact q3 (HQ.out.1.symm.trans (Hd.out j hj e1 e2 e3).2.1))
        clear HM Hd hPX hPY hPZ q1 q2 q3 Hawe HT HQ
        refine wp_region_since (by kernel_rfl) (by kernel_rfl) ?_
        repeat (go_big_quiet_step (first | (go_at_call 26; exact Calls.since (Haw.out _)) | (go_at_call 35; exact Calls.since (Hch.out _))))
        refine wpQuiet_nil ?_
        rintro _ ⟨s, rfl⟩
        have HB4 : Hid (Below w.heap.size w s.w) := HB3.out.trans (s.bel.mono HB3.out.size)
        have HX4 : Hid (s.w.heap[w.heap.size]? = some (.cells #[.int .i64 cx, .int .i64 cz] 30 (0, 0))) := (s.bel.block _ (Array.getElem?_eq_some_iff.1 HX3.out).1).trans HX3.out
        have HV4 : Hid (s.w.heap[vb]? = some (.cells #[.int .i64 mo, .int .i64 mx, .int .i64 my, .int .i64 mz, .int .i64 mr] 58 (0, 0))) := (s.bel.block _ (Array.getElem?_eq_some_iff.1 HV3.out).1).trans HV3.out
        have HP4 : Hid (Pre s.w og 5 ys) := HP3.out.below s.bel HP3.out.lt
        generalize s.w = W4 at *
        clear HB3 HX3 HV3 HP3 hsome k0 k1 k2 v1 v2 v3 v4 x0 x1 Haw Hch
        clear HPost
        go_wp2
        exact ⟨⟨K + 1, by omega, by simp, ⟨ys, HM2.out, HP4.out⟩, HX4, HV4, HB4⟩, by simp [intOf]; omega⟩
      by_cases q4 : QZ = cz
      case neg =>
        have q3' : (QX == cx) = true := by simpa using q3
        have q4' : (QZ == cz) = false := by simpa using q4
        have HM2 : Hid (Mid cx cz mx my mz mr mo bs zs (K + 1) ys) := HM.out.no HR.out.2 (fun j hj e1 e2 e3 hn => by
          rw [hPX] at e1
          rw [hPY] at e2
          rw [hPZ] at e3
          exfalso
          exact q4 (HQ.out.2.symm.trans (Hd.out j hj e1 e2 e3).2.2))
        clear HM Hd hPX hPY hPZ q1 q2 q3 q4 Hawe HT HQ
        refine wp_region_since (by kernel_rfl) (by kernel_rfl) ?_
        repeat (go_big_quiet_step (first | (go_at_call 26; exact Calls.since (Haw.out _)) | (go_at_call 35; exact Calls.since (Hch.out _))))
        refine wpQuiet_nil ?_
        rintro _ ⟨s, rfl⟩
        have HB4 : Hid (Below w.heap.size w s.w) := HB3.out.trans (s.bel.mono HB3.out.size)
        have HX4 : Hid (s.w.heap[w.heap.size]? = some (.cells #[.int .i64 cx, .int .i64 cz] 30 (0, 0))) := (s.bel.block _ (Array.getElem?_eq_some_iff.1 HX3.out).1).trans HX3.out
        have HV4 : Hid (s.w.heap[vb]? = some (.cells #[.int .i64 mo, .int .i64 mx, .int .i64 my, .int .i64 mz, .int .i64 mr] 58 (0, 0))) := (s.bel.block _ (Array.getElem?_eq_some_iff.1 HV3.out).1).trans HV3.out
        have HP4 : Hid (Pre s.w og 5 ys) := HP3.out.below s.bel HP3.out.lt
        generalize s.w = W4 at *
        clear HB3 HX3 HV3 HP3 hsome k0 k1 k2 v1 v2 v3 v4 x0 x1 Haw Hch
        clear HPost
        go_wp2
        exact ⟨⟨K + 1, by omega, by simp, ⟨ys, HM2.out, HP4.out⟩, HX4, HV4, HB4⟩, by simp [intOf]; omega⟩
      have q3' : (QX == cx) = true := by simpa using q3
      have q4' : (QZ == cz) = true := by simpa using q4
      obtain ⟨j, hj, hTj, ej1, ej2, ej3⟩ := index_j (cx := cx) (cz := cz) (by rw [HT.out]; exact q2) (HQ.out.1.trans q3) (HQ.out.2.trans q4)
      obtain rfl : T = (j : Int) := HT.out.symm.trans hTj
      have hjb : Pre w5 bg 5 bs := HBs.out.1.below HB3.out HBs.out.1.lt
      have cb := fun s : Since w5 => Since.cell (hjb.cell (k := j) (by rw [HBs.out.2.1]; exact hj)) s
      have hj' : (j : Int) < 32768 := by omega
      clear hjb
      obtain ⟨bv, hbv⟩ : ∃ v : Int, bs.getD j 0 = v := ⟨_, rfl⟩
      rw [hbv] at cb
      have Hbv : Hid (bs.getD j 0 = bv) := hbv
      clear hbv
      by_cases q5 : bv = 1
      case neg =>
        have q5' : (bv == 1) = false := by simpa using q5
        have HM2 : Hid (Mid cx cz mx my mz mr mo bs zs (K + 1) ys) := HM.out.no HR.out.2 (fun i hi e1 e2 e3 hn => by
          rw [hPX] at e1
          rw [hPY] at e2
          rw [hPZ] at e3
          have hij : (i : Int) = (j : Int) := (Hd.out i hi e1 e2 e3).1.symm.trans hTj
          have hij' : i = j := by omega
          rw [hij', Hbv.out]
          exact q5)
        clear HM Hd hPX hPY hPZ q1 q2 q3 q4 q5 Hawe HT HQ hTj ej1 ej2 ej3
        refine wp_region_since (by kernel_rfl) (by kernel_rfl) ?_
        repeat (go_big_quiet_step (first | (go_at_call 26; exact Calls.since (Haw.out _)) | (go_at_call 35; exact Calls.since (Hch.out _))))
        refine wpQuiet_nil ?_
        rintro _ ⟨s, rfl⟩
        have HB4 : Hid (Below w.heap.size w s.w) := HB3.out.trans (s.bel.mono HB3.out.size)
        have HX4 : Hid (s.w.heap[w.heap.size]? = some (.cells #[.int .i64 cx, .int .i64 cz] 30 (0, 0))) := (s.bel.block _ (Array.getElem?_eq_some_iff.1 HX3.out).1).trans HX3.out
        have HV4 : Hid (s.w.heap[vb]? = some (.cells #[.int .i64 mo, .int .i64 mx, .int .i64 my, .int .i64 mz, .int .i64 mr] 58 (0, 0))) := (s.bel.block _ (Array.getElem?_eq_some_iff.1 HV3.out).1).trans HV3.out
        have HP4 : Hid (Pre s.w og 5 ys) := HP3.out.below s.bel HP3.out.lt
        generalize s.w = W4 at *
        clear HB3 HX3 HV3 HP3 hsome k0 k1 k2 v1 v2 v3 v4 x0 x1 Haw Hch
        clear HPost cb
        go_wp2
        exact ⟨⟨K + 1, by omega, by simp, ⟨ys, HM2.out, HP4.out⟩, HX4, HV4, HB4⟩, by simp [intOf]; omega⟩
      subst q5
      have HM2 : Hid (Mid cx cz mx my mz mr mo bs zs (K + 1) (ys.set j mo)) := HM.out.yes HR.out.2 hj Hbv.out (by rw [hPX, hPY, hPZ, Hawe.out]; exact q1) (by rw [hPX]; exact ej1) (by rw [hPY]; exact ej2) (by rw [hPZ]; exact ej3) hlt
      have Hyl : Hid (ys.length = 32768) := HM.out.1
      clear HM Hd hPX hPY hPZ q1 q2 q3 q4 Hawe HT HQ hTj ej1 ej2 ej3
      refine wp_region_since (by kernel_rfl) (by kernel_rfl) ?_
      repeat (go_big_quiet_step (first | (go_at_call 26; exact Calls.since (Haw.out _)) | (go_at_call 35; exact Calls.since (Hch.out _))))
      refine wpQuiet_nil ?_
      rintro _ ⟨s, rfl⟩
      have HB4 : Hid (Below w.heap.size w s.w) := HB3.out.trans (s.bel.mono HB3.out.size)
      have HX4 : Hid (s.w.heap[w.heap.size]? = some (.cells #[.int .i64 cx, .int .i64 cz] 30 (0, 0))) := (s.bel.block _ (Array.getElem?_eq_some_iff.1 HX3.out).1).trans HX3.out
      have HV4 : Hid (s.w.heap[vb]? = some (.cells #[.int .i64 mo, .int .i64 mx, .int .i64 my, .int .i64 mz, .int .i64 mr] 58 (0, 0))) := (s.bel.block _ (Array.getElem?_eq_some_iff.1 HV3.out).1).trans HV3.out
      have HP4 : Hid (Pre s.w og 5 ys) := HP3.out.below s.bel HP3.out.lt
      generalize s.w = W4 at *
      clear HB3 HX3 HV3 HP3 hsome k0 k1 k2 v1 v2 v3 v4 x0 x1 Haw Hch
      have c0 := HP4.out.cell (k := j) (by rw [Hyl.out]; exact hj)
      have f0 := HP4.out.free j
      have vo : W4.cell? ⟨vb, 0, none⟩ = some (.int .i64 mo) := (cell_of_row W4 vb 0 _ 58 (0, 0) HV4.out).trans rfl
      have HB5 : Hid (Below w.heap.size w (W4.setCell ⟨og, j, none⟩ (.int .u8 mo))) := HB4.out.setCell (p := ⟨og, j, none⟩) (Nat.le_of_lt Hog.out) _
      have HX5 : Hid ((W4.setCell ⟨og, j, none⟩ (.int .u8 mo)).heap[w.heap.size]? = some (.cells #[.int .i64 cx, .int .i64 cz] 30 (0, 0))) := (Below.heap_setCell W4 ⟨og, j, none⟩ _ _ (Nat.ne_of_lt Hog.out)).trans HX4.out
      have HV5 : Hid ((W4.setCell ⟨og, j, none⟩ (.int .u8 mo)).heap[vb]? = some (.cells #[.int .i64 mo, .int .i64 mx, .int .i64 my, .int .i64 mz, .int .i64 mr] 58 (0, 0))) := (Below.heap_setCell W4 ⟨og, j, none⟩ _ _ (fun e => Hvb.out e.symm)).trans HV4.out
      have HP5 : Hid (Pre (W4.setCell ⟨og, j, none⟩ (.int .u8 mo)) og 5 (ys.set j mo)) := HP4.out.set j mo
      generalize ys.getD j 0 = yv at c0
      clear HPost cb HB4 HX4 HV4 HP4
      go_wp2
      exact ⟨⟨K + 1, by omega, by simp, ⟨ys.set j mo, HM2.out, HP5.out⟩, HX5, HV5, HB5⟩, by simp [intOf]; omega⟩
end Go.Proofs.Ytbcadklodjdokaa