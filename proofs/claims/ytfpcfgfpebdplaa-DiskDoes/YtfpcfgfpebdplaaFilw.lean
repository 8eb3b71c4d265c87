/-
  DiskFiles: the walk.
-/
import Derived.Test.YtfpcfgfpebdplaaHeldn
namespace Go.Proofs.Ytfpcfgfpebdplaa
open Go.RowKit Go.Maps

theorem ins_len (f : Fl) (l : List Fl) : (ins f l).length ≤ l.length + 1 := by
  induction l with
  | nil => simp [ins]
  | cons a r ih =>
    unfold ins
    split
    · simp only [List.length_cons]; omega
    · split
      · simp
      · simp
theorem files_len (l : List Bk) : (filesOf (at_ l)).length ≤ l.length := by
  have h : ∀ (p : List (Fl × Int)) (s : List Fl), (p.foldl (fun l q => ins q.1 l) s).length ≤ s.length + p.length := by
    intro p
    induction p with
    | nil => intro s; simp
    | cons q r ih =>
      intro s
      rw [List.foldl_cons]
      have h1 := ih (ins q.1 s)
      have h2 := ins_len q.1 s
      simp only [List.length_cons]
      omega
  have := h (at_ l) []
  simpa [filesOf, at_] using this
theorem mem_next {f : Fl} {fs : List Fl} {i : Nat} (hi : i < fs.length) : decide (f ∈ fs.take (i + 1)) = (decide (f ∈ fs.take i) || decide (fs[i] = f)) := by
  rw [List.take_add_one, List.getElem?_eq_getElem hi]
  simp only [Option.toList_some, List.mem_append, List.mem_singleton]
  rw [← Bool.decide_or]
  exact decide_eq_decide.2 ⟨fun h => h.imp id Eq.symm, fun h => h.imp id Eq.symm⟩
theorem prev_file {fs : List Fl} {i n b o : Nat} (hi : i < fs.length) (h0 : 0 < i) (hp : fs.Pairwise Lt) : ∃ p : Fl, Lt p fs[i] ∧ (∀ w', Fls w' (some ⟨b, o, none⟩) n fs → w'.cell? ⟨b, o + (i - 1) * 3, none⟩ = some (.int .i64 p.1) ∧ w'.cell? ⟨b, o + (i - 1) * 3 + 1, none⟩ = some (.int .i64 p.2.1) ∧ w'.cell? ⟨b, o + (i - 1) * 3 + 2, none⟩ = some (.int .i64 p.2.2)) := by
  refine ⟨fs[i - 1], List.pairwise_iff_getElem.1 hp (i - 1) i (by omega) hi (by omega), fun w' h => ?_⟩
  obtain ⟨b', o', e, c⟩ := h.cells (i - 1) (by omega)
  cases e
  exact c

set_option maxRecDepth 1000000 in
set_option maxHeartbeats 4000000 in
theorem diskFiles_walk (a : Option Addr) (len cap : Nat) (f : Fl) (l : List Oc) (W : World) (hl : l.length = len) (hO : Ops W a l) (hf : I64F f) :
    Calls Try.prog 5 #[.slice a len cap, valF f] W fun e W' => e = .returned (.bool true) ∧ Below W.heap.size W W' := by
  obtain ⟨f1, f2, f3⟩ := f
  obtain ⟨Post, hPost⟩ : ∃ Post : Ending → World → Prop, Post = fun e w' => e = .returned (.bool true) ∧ Below W.heap.size W w' := ⟨_, rfl⟩
  rw [← hPost]
  have HP : Hid (∀ w', Below W.heap.size W w' → Post (.returned (.bool true)) w') := fun w' h => by rw [hPost]; exact ⟨rfl, h⟩
  clear hPost
  have HOps : Hid (Ops W a l) := hO
  have Hl : Hid (l.length = len) := hl
  have Hf : Hid (I64F (f1, f2, f3)) := hf
  obtain ⟨hbx, hax, hsx⟩ := box_in W f1 f2 f3
  have HNx : Hid (Below W.heap.size W (W.alloc (.cells #[.int .i64 f1, .int .i64 f2, .int .i64 f3] 30))) := hbx
  have HAx : Hid (At3 W.heap.size f1 f2 f3 (W.alloc (.cells #[.int .i64 f1, .int .i64 f2, .int .i64 f3] 30))) := hax
  clear hO hl hf hbx hax
  go_enter Try.func5, Try.ntmps5
  go_upto_region 1 with fail
  generalize W.alloc (.cells #[.int .i64 f1, .int .i64 f2, .int .i64 f3] 30) = wx at *
  go_wp2_with fail
  refine (awake_c wx).mono ?_
  rintro e w0 ⟨rfl, hb0⟩
  have HN0 : Hid (Below W.heap.size W w0) := HNx.out.trans (hb0.mono HNx.out.size)
  have HA0 : Hid (At3 W.heap.size f1 f2 f3 w0) := HAx.out.inside hb0
  have hX0 : W.heap.size < w0.heap.size := Nat.lt_of_lt_of_le hsx hb0.size
  clear hb0 HNx HAx hsx
  go_wp2_with fail
  refine (hnew W.heap.size (fun k => k = W.heap.size) w0 HN0.out.size (fun k hk => hk ▸ hX0)).mono ?_
  rintro e w1 ⟨d, rfl, hD1, hb1⟩
  have HD1 : Hid (Hold W.heap.size (fun k => k = W.heap.size) w1 d St.new) := hD1
  have HN1 : Hid (Below W.heap.size W w1) := HN0.out.trans (hb1.mono HN0.out.size)
  have HA1 : Hid (At3 W.heap.size f1 f2 f3 w1) := HA0.out.inside hb1
  have hX1 : W.heap.size < w1.heap.size := Nat.lt_of_lt_of_le hX0 hb1.size
  clear hb1 hD1 HN0 HA0 hX0
  by_cases hlong : 200 < len
  · have hlen' : (200 : Int) < len := by omega
    have R := HP.out w1 HN1.out
    clear HP HD1 HN1 HA1
    go_wp2
    exact R
  · have hlen' : (len : Int) ≤ 200 := by omega
    go_wp2
    go_loopw [7] (fun v7 wr => ∃ (j : Nat), j ≤ len ∧ v7 = .int .i64 (j : Int) ∧ Hid (∃ S, Hold W.heap.size (fun k => k = W.heap.size) wr d S ∧ Few S j) ∧ Hid (At3 W.heap.size f1 f2 f3 wr ∧ W.heap.size < wr.heap.size) ∧ Hid (Below W.heap.size W wr)) (fun v7 _ => len - (intOf v7).toNat)
    case atStart => exact ⟨0, Nat.zero_le _, rfl, ⟨_, HD1.out, Few.new⟩, ⟨HA1.out, hX1⟩, HN1.out⟩
    case round =>
      obtain ⟨j, hj, rfl, HS, HAX, HN⟩ := hrel
      obtain ⟨S, hD0, hF0⟩ := HS.out
      have HD : Hid (Hold W.heap.size (fun k => k = W.heap.size) wr d S) := hD0
      have HF : Hid (Few S j) := hF0
      have HA : Hid (At3 W.heap.size f1 f2 f3 wr) := HAX.out.1
      have hX : W.heap.size < wr.heap.size := HAX.out.2
      clear hD0 hF0 HS HAX
      by_cases hlt : j < len
      · have hlt' : (j : Int) < len := by omega
        have hjl : j < l.length := by rw [Hl.out]; exact hlt
        obtain ⟨b, off, rfl, hO⟩ := HOps.out j hjl
        generalize hoe : l[j] = o at hO
        obtain ⟨ok, ⟨g1, g2, g3⟩, oi, oa, on, oc, ob⟩ := o
        have HO : Hid (OpAt W b off j ⟨ok, (g1, g2, g3), oi, oa, on, oc, ob⟩) := hO
        have Hoe : Hid (l[j]? = some ⟨ok, (g1, g2, g3), oi, oa, on, oc, ob⟩) := by show _ = _; rw [List.getElem?_eq_getElem hjl, hoe]
        have Hg : Hid (I64F (g1, g2, g3)) := ⟨hO.bd.2.1, hO.bd.2.2.1, hO.bd.2.2.2⟩
        have Hi : Hid (I64 oi) := hO.bd.1
        have Hbn : Hid (ob.length = on) := hO.by_.n
        clear hO hoe
        have Hfw : Hid (S.writes ≤ 200) := by have := HF.out.2.2; show S.writes ≤ 200; omega
        clear hjl
        go_wp2
        refine region_L (fun w' => Below W.heap.size W w') 17 (by kernel_rfl) ?_
        have HDa : Hid (Hold W.heap.size (fun k => k = W.heap.size) wr.drew d S) := HD.out.drew
        have HNa : Hid (Below W.heap.size W wr.drew) := HN.out.drew
        have HAa : Hid (At3 W.heap.size f1 f2 f3 wr.drew) := HA.out
        have hXa : W.heap.size < wr.drew.heap.size := hX
        clear HN HD HA hX
        generalize wr.drew = va at *
        have hHeld : (fun w' => Below W.heap.size W w') _ := HNa.out
        have hne : Nonempty (Sub (fun w' => Below W.heap.size W w')) := ⟨⟨_, hHeld⟩⟩
        have k1 : ∀ s : Sub (fun w' => Below W.heap.size W w'), s.w.cell? ⟨b, off + j * 6 + 1, none⟩ = some (.int .i64 g1) := fun s => (HO.out.on s.ok).c1
        have k2 : ∀ s : Sub (fun w' => Below W.heap.size W w'), s.w.cell? ⟨b, off + j * 6 + 2, none⟩ = some (.int .i64 g2) := fun s => (HO.out.on s.ok).c2
        have k3 : ∀ s : Sub (fun w' => Below W.heap.size W w'), s.w.cell? ⟨b, off + j * 6 + 3, none⟩ = some (.int .i64 g3) := fun s => (HO.out.on s.ok).c3
        have k4 : ∀ s : Sub (fun w' => Below W.heap.size W w'), s.w.cell? ⟨b, off + j * 6 + 4, none⟩ = some (.int .i64 oi) := fun s => (HO.out.on s.ok).c4
        have k5 : ∀ s : Sub (fun w' => Below W.heap.size W w'), s.w.cell? ⟨b, off + j * 6 + 5, none⟩ = some (.slice oa on oc) := fun s => (HO.out.on s.ok).c5
        refine take_N (i := 0) rfl (by kernel_rfl) (by kernel_rfl) (by kernel_rfl) (by rfl) (fun _ _ _ _ h => h) (by exact hHeld) (fun K hK => ?_)
        go_simp
        refine hK _ ?_
        clear hK K
        refine take_N (i := 1) rfl (by kernel_rfl) (by kernel_rfl) (by kernel_rfl) (by rfl) (fun _ _ _ _ h => h) (by exact hHeld) (fun K hK => ?_)
        go_simp
        refine hK _ ?_
        clear hK K
        refine take_N (i := 2) rfl (by kernel_rfl) (by kernel_rfl) (by kernel_rfl) (by rfl) (fun _ _ _ _ h => h) (by exact hHeld) (fun K hK => ?_)
        go_simp
        refine hK _ ?_
        clear hK K
        refine take_N (i := 3) rfl (by kernel_rfl) (by kernel_rfl) (by kernel_rfl) (by rfl) (fun _ _ _ _ h => h) (by exact hHeld) (fun K hK => ?_)
        go_simp
        refine hK _ ?_
        clear hK K
        refine take_N (i := 4) rfl (by kernel_rfl) (by kernel_rfl) (by kernel_rfl) (by rfl) (fun _ _ _ _ h => h) (by exact hHeld) (fun K hK => ?_)
        go_simp
        refine hK _ ?_
        clear hK K
        refine take_N (i := 5) rfl (by kernel_rfl) (by kernel_rfl) (by kernel_rfl) (by rfl) (fun _ _ _ _ h => h) (by exact hHeld) (fun K hK => ?_)
        go_simp
        refine hK _ ?_
        clear hK K
        refine take_N (i := 6) rfl (by kernel_rfl) (by kernel_rfl) (by kernel_rfl) (by rfl) (fun _ _ _ _ h => h) (by exact hHeld) (fun K hK => ?_)
        go_simp
        refine hK _ ?_
        clear hK K
        refine take_N (i := 7) rfl (by kernel_rfl) (by kernel_rfl) (by kernel_rfl) (by rfl) (fun _ _ _ _ h => h) (by exact hHeld) (fun K hK => ?_)
        go_simp
        refine hK _ ?_
        clear hK K
        refine take_N (i := 8) rfl (by kernel_rfl) (by kernel_rfl) (by kernel_rfl) (by rfl) (fun _ _ _ _ h => h) (by exact hHeld) (fun K hK => ?_)
        go_simp
        refine hK _ ?_
        clear hK K
        refine take_N (i := 9) rfl (by kernel_rfl) (by kernel_rfl) (by kernel_rfl) (by rfl) (fun _ _ _ _ h => h) (by exact hHeld) (fun K hK => ?_)
        go_simp
        refine hK _ ?_
        clear hK K
        refine take_N (i := 10) rfl (by kernel_rfl) (by kernel_rfl) (by kernel_rfl) (by rfl) (fun _ _ _ _ h => h) (by exact hHeld) (fun K hK => ?_)
        go_simp
        refine hK _ ?_
        clear hK K
        refine take_N (i := 11) rfl (by kernel_rfl) (by kernel_rfl) (by kernel_rfl) (by rfl) (fun _ _ _ _ h => h) (by exact hHeld) (fun K hK => ?_)
        go_simp
        refine hK _ ?_
        clear hK K
        refine take_N (i := 12) rfl (by kernel_rfl) (by kernel_rfl) (by kernel_rfl) (by rfl) (fun _ _ _ _ h => h) (by exact hHeld) (fun K hK => ?_)
        go_simp
        refine hK _ ?_
        clear hK K
        refine take_N (i := 13) rfl (by kernel_rfl) (by kernel_rfl) (by kernel_rfl) (by rfl) (fun _ _ _ _ h => h) (by exact hHeld) (fun K hK => ?_)
        go_simp
        refine hK _ ?_
        clear hK K
        refine take_N (i := 14) rfl (by kernel_rfl) (by kernel_rfl) (by kernel_rfl) (by rfl) (fun _ _ _ _ h => h) (by exact hHeld) (fun K hK => ?_)
        go_simp
        refine hK _ ?_
        clear hK K
        refine take_N (i := 15) rfl (by kernel_rfl) (by kernel_rfl) (by kernel_rfl) (by rfl) (fun _ _ _ _ h => h) (by exact hHeld) (fun K hK => ?_)
        go_simp
        refine hK _ ?_
        clear hK K
        refine one_L (i := 16) (by kernel_rfl) rfl (fun K hK => ?_)
        go_simp
        refine (hwrite W.heap.size (fun k => k = W.heap.size) d S g1 g2 g3 oi oa on oc ob Hg.out va HDa.out HNa.out.size (fun k hk => hk ▸ hXa) (HO.out.on HNa.out).by_ (by have := Hfw.out; omega)).mono ?_
        rintro _ w4 ⟨rfl, hD, hk⟩
        have HD : Hid (Hold W.heap.size (fun k => k = W.heap.size) w4 d (S.write (g1, g2, g3) oi ob).2) := hD
        have HN : Hid (Below W.heap.size W w4) := HNa.out.trans (hk.below HNa.out.size)
        have HA : Hid (At3 W.heap.size f1 f2 f3 w4) := HAa.out.kept hk (Or.inr rfl)
        have hX : W.heap.size < w4.heap.size := Nat.lt_of_lt_of_le hXa hk.size
        clear hD hk
        replace hHeld : (fun w' => Below W.heap.size W w') _ := HN.out
        refine hK.out _ _ (fun _ => hHeld) ?_
        clear hK K
        refine done_L (by kernel_rfl) ?_ _
        clear hHeld hne k1 k2 k3 k4 k5 HDa HNa HAa hXa
        go_wp2
        go_roundw
        case rel => exact ⟨j + 1, by omega, by simp, ⟨_, HD.out, HF.out.write (g1, g2, g3) oi ob⟩, ⟨HA.out, hX⟩, HN.out⟩
        case measure => simp [intOf]; omega
      · go_wp2_with fail
        refine (hfiles W.heap.size (fun k => k = W.heap.size) d S wr HD.out).mono ?_
        rintro e w5 ⟨a8, n8, c8, rfl, hfs, hb5⟩
        have HD5 : Hid (Hold W.heap.size (fun k => k = W.heap.size) w5 d S) := HD.out.inside hb5
        have HN5 : Hid (Below W.heap.size W w5) := HN.out.trans (hb5.mono HN.out.size)
        have HA5 : Hid (At3 W.heap.size f1 f2 f3 w5) := HA.out.inside hb5
        have Hgood : Hid (Good S.l) := HD.out.good
        obtain ⟨fs, hfse⟩ : ∃ fs, fs = filesOf (at_ S.l) := ⟨_, rfl⟩
        have Hfse : Hid (fs = filesOf (at_ S.l)) := hfse
        have HFl5 : Hid (Fls w5 a8 n8 fs) := by rw [hfse]; exact hfs
        have Hfn : Hid (fs.length = n8) := HFl5.out.n
        have Hf64 : Hid (∀ f ∈ fs, I64F f) := by rw [hfse]; exact HD.out.i64
        have hn8 : n8 ≤ 1000000 := by
          have h1 : fs.length ≤ S.l.length := by rw [hfse]; exact files_len _
          have h2 := HF.out.1
          have h3 := Hfn.out
          omega
        clear hfs hb5 HD HN HA hfse hX HF
        go_wp2
        go_loopw [9, 10] (fun v9 v10 wr => ∃ (i : Nat), i ≤ n8 ∧ v10 = .int .i64 (i : Int) ∧ v9 = .bool (decide ((f1, f2, f3) ∈ fs.take i)) ∧ Hid (Hold W.heap.size (fun k => k = W.heap.size) wr d S ∧ At3 W.heap.size f1 f2 f3 wr ∧ Fls wr a8 n8 fs) ∧ Hid (Below W.heap.size W wr)) (fun _ v10 _ => n8 - (intOf v10).toNat)
        case atStart => exact ⟨0, Nat.zero_le _, rfl, by simp, ⟨HD5.out, HA5.out, HFl5.out⟩, HN5.out⟩
        case round =>
          obtain ⟨i, hi, rfl, rfl, HS, HN⟩ := hrel
          by_cases hlti : i < n8
          · have hlti' : (i : Int) < n8 := by omega
            have hil : i < fs.length := by rw [Hfn.out]; exact hlti
            obtain ⟨b8, o8, rfl, x0, x1, x2⟩ := HS.out.2.2.cells i hil
            have Hfi : Hid (fs[i] ∈ filesOf (at_ S.l)) := by rw [← Hfse.out]; exact List.getElem_mem hil
            have Hfi64 : Hid (I64F fs[i]) := Hf64.out _ (List.getElem_mem hil)
            have Hnext : Hid (decide ((f1, f2, f3) ∈ fs.take (i + 1)) = (decide ((f1, f2, f3) ∈ fs.take i) || decide (fs[i] = (f1, f2, f3)))) := mem_next hil
            have Hprev : Hid (0 < i → ∃ p : Fl, Lt p fs[i] ∧ (∀ w', Fls w' (some ⟨b8, o8, none⟩) n8 fs → w'.cell? ⟨b8, o8 + (i - 1) * 3, none⟩ = some (.int .i64 p.1) ∧ w'.cell? ⟨b8, o8 + (i - 1) * 3 + 1, none⟩ = some (.int .i64 p.2.1) ∧ w'.cell? ⟨b8, o8 + (i - 1) * 3 + 2, none⟩ = some (.int .i64 p.2.2))) := fun h0 => prev_file hil h0 (by rw [Hfse.out]; exact files_rise _)
            have Hgi : Hid (∀ w', Fls w' (some ⟨b8, o8, none⟩) n8 fs → w'.cell? ⟨b8, o8 + i * 3, none⟩ = some (.int .i64 fs[i].1) ∧ w'.cell? ⟨b8, o8 + i * 3 + 1, none⟩ = some (.int .i64 fs[i].2.1) ∧ w'.cell? ⟨b8, o8 + i * 3 + 2, none⟩ = some (.int .i64 fs[i].2.2)) := fun w' h => by
              obtain ⟨b, o, e, c⟩ := h.cells i hil
              cases e
              exact c
            generalize fs[i] = gi at *
            obtain ⟨h1, h2, h3⟩ := gi
            simp only at x0 x1 x2
            obtain ⟨L1, L2⟩ := len_file Hgood.out Hfi.out
            go_wp2_with fail
            refine (hlen W.heap.size (fun k => k = W.heap.size) d S h1 h2 h3 Hfi64.out wr HS.out.1).mono ?_
            rintro e w6 ⟨rfl, hb6⟩
            have HS6 : Hid (Hold W.heap.size (fun k => k = W.heap.size) w6 d S ∧ At3 W.heap.size f1 f2 f3 w6 ∧ Fls w6 (some ⟨b8, o8, none⟩) n8 fs) := ⟨HS.out.1.inside hb6, HS.out.2.1.inside hb6, HS.out.2.2.later hb6⟩
            have HN6 : Hid (Below W.heap.size W w6) := HN.out.trans (hb6.mono HN.out.size)
            generalize lenOf (at_ S.l) (h1, h2, h3) = LL at *
            have hL1 : ¬ LL < 1 := by omega
            have hL2 : ¬ 4096 < LL := by omega
            clear hb6 HS HN x0 x1 x2 L1 L2
            obtain ⟨T, hT⟩ : ∃ T, T = decide ((f1, f2, f3) ∈ fs.take i) := ⟨_, rfl⟩
            have HT : Hid (T = decide ((f1, f2, f3) ∈ fs.take i)) := hT
            rw [← hT]
            clear hT
            have hii : IntKind.i64.wrap ((i : Int) + 1) = (i : Int) + 1 := wrapI (by omega)
            go_wp2
            rcases T with _ | _
            · refine region_L (fun w' => Hold W.heap.size (fun k => k = W.heap.size) w' d S ∧ At3 W.heap.size f1 f2 f3 w' ∧ Fls w' (some ⟨b8, o8, none⟩) n8 fs) 9 (by kernel_rfl) ?_
              have HSa : Hid ((fun w' => Hold W.heap.size (fun k => k = W.heap.size) w' d S ∧ At3 W.heap.size f1 f2 f3 w' ∧ Fls w' (some ⟨b8, o8, none⟩) n8 fs) w6.drew) := ⟨HS6.out.1.drew, HS6.out.2.1, ⟨HS6.out.2.2.n, HS6.out.2.2.cells⟩⟩
              have HNa : Hid (Below W.heap.size W w6.drew) := HN6.out.drew
              clear HS6 HN6
              generalize w6.drew = w7 at *
              obtain ⟨T2, hT2⟩ : ∃ T2, T2 = decide (((h1, h2, h3) : Fl) = (f1, f2, f3)) := ⟨_, rfl⟩
              have HT2 : Hid (T2 = decide (((h1, h2, h3) : Fl) = (f1, f2, f3))) := hT2
              clear hT2
              have hHeld : (fun w' => Hold W.heap.size (fun k => k = W.heap.size) w' d S ∧ At3 W.heap.size f1 f2 f3 w' ∧ Fls w' (some ⟨b8, o8, none⟩) n8 fs) _ := HSa.out
              have hne : Nonempty (Sub (fun w' => Hold W.heap.size (fun k => k = W.heap.size) w' d S ∧ At3 W.heap.size f1 f2 f3 w' ∧ Fls w' (some ⟨b8, o8, none⟩) n8 fs)) := ⟨⟨_, hHeld⟩⟩
              have k0 : ∀ s : Sub (fun w' => Hold W.heap.size (fun k => k = W.heap.size) w' d S ∧ At3 W.heap.size f1 f2 f3 w' ∧ Fls w' (some ⟨b8, o8, none⟩) n8 fs), s.w.cell? ⟨W.heap.size, 0, none⟩ = some (.int .i64 f1) := fun s => s.ok.2.1.1
              have k1 : ∀ s : Sub (fun w' => Hold W.heap.size (fun k => k = W.heap.size) w' d S ∧ At3 W.heap.size f1 f2 f3 w' ∧ Fls w' (some ⟨b8, o8, none⟩) n8 fs), s.w.cell? ⟨W.heap.size, 1, none⟩ = some (.int .i64 f2) := fun s => s.ok.2.1.2.1
              have k2 : ∀ s : Sub (fun w' => Hold W.heap.size (fun k => k = W.heap.size) w' d S ∧ At3 W.heap.size f1 f2 f3 w' ∧ Fls w' (some ⟨b8, o8, none⟩) n8 fs), s.w.cell? ⟨W.heap.size, 2, none⟩ = some (.int .i64 f3) := fun s => s.ok.2.1.2.2
              have k3 : ∀ s : Sub (fun w' => Hold W.heap.size (fun k => k = W.heap.size) w' d S ∧ At3 W.heap.size f1 f2 f3 w' ∧ Fls w' (some ⟨b8, o8, none⟩) n8 fs), s.w.cell? ⟨b8, o8 + i * 3, none⟩ = some (.int .i64 h1) := fun s => (Hgi.out s.w s.ok.2.2).1
              have k4 : ∀ s : Sub (fun w' => Hold W.heap.size (fun k => k = W.heap.size) w' d S ∧ At3 W.heap.size f1 f2 f3 w' ∧ Fls w' (some ⟨b8, o8, none⟩) n8 fs), s.w.cell? ⟨b8, o8 + i * 3 + 1, none⟩ = some (.int .i64 h2) := fun s => (Hgi.out s.w s.ok.2.2).2.1
              have k5 : ∀ s : Sub (fun w' => Hold W.heap.size (fun k => k = W.heap.size) w' d S ∧ At3 W.heap.size f1 f2 f3 w' ∧ Fls w' (some ⟨b8, o8, none⟩) n8 fs), s.w.cell? ⟨b8, o8 + i * 3 + 2, none⟩ = some (.int .i64 h3) := fun s => (Hgi.out s.w s.ok.2.2).2.2
              refine take_L (i := 0) rfl (by kernel_rfl) (by kernel_rfl) (by kernel_rfl) (by kernel_rfl) (fun _ _ _ _ h => h) (by exact hHeld) (fun K hK => ?_)
              go_simp
              refine hK _ ?_
              clear hK K
              refine take_L (i := 1) rfl (by kernel_rfl) (by kernel_rfl) (by kernel_rfl) (by kernel_rfl) (fun _ _ _ _ h => h) (by exact hHeld) (fun K hK => ?_)
              go_simp
              refine hK _ ?_
              clear hK K
              refine take_L (i := 2) rfl (by kernel_rfl) (by kernel_rfl) (by kernel_rfl) (by kernel_rfl) (fun _ _ _ _ h => h) (by exact hHeld) (fun K hK => ?_)
              go_simp
              refine hK _ ?_
              clear hK K
              refine take_L (i := 3) rfl (by kernel_rfl) (by kernel_rfl) (by kernel_rfl) (by kernel_rfl) (fun _ _ _ _ h => h) (by exact hHeld) (fun K hK => ?_)
              go_simp
              refine hK _ ?_
              clear hK K
              refine take_L (i := 4) rfl (by kernel_rfl) (by kernel_rfl) (by kernel_rfl) (by kernel_rfl) (fun _ _ _ _ h => h) (by exact hHeld) (fun K hK => ?_)
              go_simp
              refine hK _ ?_
              clear hK K
              refine take_L (i := 5) rfl (by kernel_rfl) (by kernel_rfl) (by kernel_rfl) (by kernel_rfl) (fun _ _ _ _ h => h) (by exact hHeld) (fun K hK => ?_)
              go_simp
              refine hK _ ?_
              clear hK K
              refine take_L (i := 6) rfl (by kernel_rfl) (by kernel_rfl) (by kernel_rfl) (by kernel_rfl) (fun _ _ _ _ h => h) (by exact hHeld) (fun K hK => ?_)
              go_simp
              refine hK _ ?_
              clear hK K
              refine give_L (i := 7) (.bool T2) rfl (by kernel_rfl) (by kernel_rfl) (by kernel_rfl) (by kernel_rfl) (fun _ _ _ _ h => h) (by exact hHeld) (by rfl) (fun s => by rw [HT2.out]; exact exec_eql30 (h1, h2, h3) (f1, f2, f3) s.w rfl rfl rfl) ?_
              refine take_L (i := 8) rfl (by kernel_rfl) (by kernel_rfl) (by kernel_rfl) (by kernel_rfl) (fun _ _ _ _ h => h) (by exact hHeld) (fun K hK => ?_)
              go_simp
              refine hK _ ?_
              clear hK K
              refine one_L (i := 9) (by kernel_rfl) rfl (fun K hK => ?_)
              go_simp
              refine hK.out _ _ (fun h => absurd rfl h) ?_
              clear hK K
              refine done_L (by kernel_rfl) ?_ _
              have HS7 : Hid ((fun w' => Hold W.heap.size (fun k => k = W.heap.size) w' d S ∧ At3 W.heap.size f1 f2 f3 w' ∧ Fls w' (some ⟨b8, o8, none⟩) n8 fs) w7) := HSa.out
              have HN7 := HNa
              clear hHeld hne k0 k1 k2 k3 k4 k5 HSa HNa
              have Hval : Hid (Value.bool T2 = .bool (decide ((f1, f2, f3) ∈ fs.take (i + 1)))) := by show _ = _; rw [Hnext.out, ← HT.out, Bool.false_or, HT2.out]
              clear HT Hnext HT2
              by_cases h0 : i = 0
              · subst h0
                go_wp2
                go_roundw
                case rel => exact ⟨1, by omega, rfl, Hval.out, HS7.out, HN7.out⟩
                case measure => simp [intOf]; omega
              · obtain ⟨m, rfl⟩ : ∃ m, i = m + 1 := ⟨i - 1, by omega⟩
                obtain ⟨⟨p1, p2, p3⟩, hlt', hpc⟩ := Hprev.out (by omega)
                obtain ⟨z0, z1, z2⟩ := hpc w7 HS7.out.2.2
                obtain ⟨y0, y1, y2⟩ := Hgi.out w7 HS7.out.2.2
                have hbz : ∀ o1 b m v, w7.cell? ⟨b, m, none⟩ = some v → (w7.alloc o1).cell? ⟨b, m, none⟩ = some v := fun o1 b m v hv => (((Below.refl w7.heap.size w7).alloc (Nat.le_refl _) o1).cell (p := ⟨b, m, none⟩) (World.block_lt_of_cell? w7 _ hv)).trans hv
                have u0 := hbz (.cells #[.int .i64 p1, .int .i64 p2, .int .i64 p3] 30) _ _ _ y0
                have u1 := hbz (.cells #[.int .i64 p1, .int .i64 p2, .int .i64 p3] 30) _ _ _ y1
                have u2 := hbz (.cells #[.int .i64 p1, .int .i64 p2, .int .i64 p3] 30) _ _ _ y2
                simp only [Nat.add_sub_cancel] at z0 z1 z2
                clear hbz y0 y1 y2
                have HbZ : Hid (Below w7.heap.size w7 ((w7.alloc (.cells #[.int .i64 p1, .int .i64 p2, .int .i64 p3] 30)).alloc (.cells #[.int .i64 h1, .int .i64 h2, .int .i64 h3] 30))) := ((Below.refl _ _).alloc (Nat.le_refl _) _).alloc (by rw [World.size_alloc]; omega) _
                have HSZ : Hid (Hold W.heap.size (fun k => k = W.heap.size) ((w7.alloc (.cells #[.int .i64 p1, .int .i64 p2, .int .i64 p3] 30)).alloc (.cells #[.int .i64 h1, .int .i64 h2, .int .i64 h3] 30)) d S ∧ At3 W.heap.size f1 f2 f3 ((w7.alloc (.cells #[.int .i64 p1, .int .i64 p2, .int .i64 p3] 30)).alloc (.cells #[.int .i64 h1, .int .i64 h2, .int .i64 h3] 30)) ∧ Fls ((w7.alloc (.cells #[.int .i64 p1, .int .i64 p2, .int .i64 p3] 30)).alloc (.cells #[.int .i64 h1, .int .i64 h2, .int .i64 h3] 30)) (some ⟨b8, o8, none⟩) n8 fs) := ⟨HS7.out.1.inside HbZ.out, HS7.out.2.1.inside HbZ.out, HS7.out.2.2.later HbZ.out⟩
                have HNZ : Hid (Below W.heap.size W ((w7.alloc (.cells #[.int .i64 p1, .int .i64 p2, .int .i64 p3] 30)).alloc (.cells #[.int .i64 h1, .int .i64 h2, .int .i64 h3] 30))) := HN7.out.trans (HbZ.out.mono HN7.out.size)
                have hm1 : IntKind.i64.wrap ((m : Int) + 1 - 1) = (m : Int) := by rw [show (m : Int) + 1 - 1 = m by omega]; exact wrapI (by omega)
                have hmn : (m : Int) < n8 := by omega
                have hmn1 : (m : Int) + 1 < n8 := by omega
                clear HbZ HS7 HN7
                rcases Lt.iff.1 hlt' with hA | ⟨hA, hB | ⟨hB, hC⟩⟩
                · simp only at hA
                  clear hlt'
                  go_wp2
                  go_roundw
                  case rel => exact ⟨m + 2, by omega, by simp; omega, Hval.out, HSZ.out, HNZ.out⟩
                  case measure => simp [intOf]; omega
                · simp only at hA hB
                  subst hA
                  clear hlt'
                  go_wp2
                  go_roundw
                  case rel => exact ⟨m + 2, by omega, by simp; omega, Hval.out, HSZ.out, HNZ.out⟩
                  case measure => simp [intOf]; omega
                · simp only at hA hB hC
                  subst hA hB
                  clear hlt'
                  go_wp2
                  go_roundw
                  case rel => exact ⟨m + 2, by omega, by simp; omega, Hval.out, HSZ.out, HNZ.out⟩
                  case measure => simp [intOf]; omega
            · refine region_L (fun w' => Hold W.heap.size (fun k => k = W.heap.size) w' d S ∧ At3 W.heap.size f1 f2 f3 w' ∧ Fls w' (some ⟨b8, o8, none⟩) n8 fs) 9 (by kernel_rfl) ?_
              have HSa : Hid ((fun w' => Hold W.heap.size (fun k => k = W.heap.size) w' d S ∧ At3 W.heap.size f1 f2 f3 w' ∧ Fls w' (some ⟨b8, o8, none⟩) n8 fs) w6.drew) := ⟨HS6.out.1.drew, HS6.out.2.1, ⟨HS6.out.2.2.n, HS6.out.2.2.cells⟩⟩
              have HNa : Hid (Below W.heap.size W w6.drew) := HN6.out.drew
              clear HS6 HN6
              generalize w6.drew = w7 at *
              have hHeld : (fun w' => Hold W.heap.size (fun k => k = W.heap.size) w' d S ∧ At3 W.heap.size f1 f2 f3 w' ∧ Fls w' (some ⟨b8, o8, none⟩) n8 fs) _ := HSa.out
              have hne : Nonempty (Sub (fun w' => Hold W.heap.size (fun k => k = W.heap.size) w' d S ∧ At3 W.heap.size f1 f2 f3 w' ∧ Fls w' (some ⟨b8, o8, none⟩) n8 fs)) := ⟨⟨_, hHeld⟩⟩
              have k0 : ∀ s : Sub (fun w' => Hold W.heap.size (fun k => k = W.heap.size) w' d S ∧ At3 W.heap.size f1 f2 f3 w' ∧ Fls w' (some ⟨b8, o8, none⟩) n8 fs), s.w.cell? ⟨W.heap.size, 0, none⟩ = some (.int .i64 f1) := fun s => s.ok.2.1.1
              have k1 : ∀ s : Sub (fun w' => Hold W.heap.size (fun k => k = W.heap.size) w' d S ∧ At3 W.heap.size f1 f2 f3 w' ∧ Fls w' (some ⟨b8, o8, none⟩) n8 fs), s.w.cell? ⟨W.heap.size, 1, none⟩ = some (.int .i64 f2) := fun s => s.ok.2.1.2.1
              have k2 : ∀ s : Sub (fun w' => Hold W.heap.size (fun k => k = W.heap.size) w' d S ∧ At3 W.heap.size f1 f2 f3 w' ∧ Fls w' (some ⟨b8, o8, none⟩) n8 fs), s.w.cell? ⟨W.heap.size, 2, none⟩ = some (.int .i64 f3) := fun s => s.ok.2.1.2.2
              have k3 : ∀ s : Sub (fun w' => Hold W.heap.size (fun k => k = W.heap.size) w' d S ∧ At3 W.heap.size f1 f2 f3 w' ∧ Fls w' (some ⟨b8, o8, none⟩) n8 fs), s.w.cell? ⟨b8, o8 + i * 3, none⟩ = some (.int .i64 h1) := fun s => (Hgi.out s.w s.ok.2.2).1
              have k4 : ∀ s : Sub (fun w' => Hold W.heap.size (fun k => k = W.heap.size) w' d S ∧ At3 W.heap.size f1 f2 f3 w' ∧ Fls w' (some ⟨b8, o8, none⟩) n8 fs), s.w.cell? ⟨b8, o8 + i * 3 + 1, none⟩ = some (.int .i64 h2) := fun s => (Hgi.out s.w s.ok.2.2).2.1
              have k5 : ∀ s : Sub (fun w' => Hold W.heap.size (fun k => k = W.heap.size) w' d S ∧ At3 W.heap.size f1 f2 f3 w' ∧ Fls w' (some ⟨b8, o8, none⟩) n8 fs), s.w.cell? ⟨b8, o8 + i * 3 + 2, none⟩ = some (.int .i64 h3) := fun s => (Hgi.out s.w s.ok.2.2).2.2
              refine take_L (i := 0) rfl (by kernel_rfl) (by kernel_rfl) (by kernel_rfl) (by kernel_rfl) (fun _ _ _ _ h => h) (by exact hHeld) (fun K hK => ?_)
              go_simp
              refine hK _ ?_
              clear hK K
              refine take_L (i := 1) rfl (by kernel_rfl) (by kernel_rfl) (by kernel_rfl) (by kernel_rfl) (fun _ _ _ _ h => h) (by exact hHeld) (fun K hK => ?_)
              go_simp
              refine hK _ ?_
              clear hK K
              refine take_L (i := 2) rfl (by kernel_rfl) (by kernel_rfl) (by kernel_rfl) (by kernel_rfl) (fun _ _ _ _ h => h) (by exact hHeld) (fun K hK => ?_)
              go_simp
              refine hK _ ?_
              clear hK K
              refine take_L (i := 3) rfl (by kernel_rfl) (by kernel_rfl) (by kernel_rfl) (by kernel_rfl) (fun _ _ _ _ h => h) (by exact hHeld) (fun K hK => ?_)
              go_simp
              refine hK _ ?_
              clear hK K
              refine take_L (i := 4) rfl (by kernel_rfl) (by kernel_rfl) (by kernel_rfl) (by kernel_rfl) (fun _ _ _ _ h => h) (by exact hHeld) (fun K hK => ?_)
              go_simp
              refine hK _ ?_
              clear hK K
              refine take_L (i := 5) rfl (by kernel_rfl) (by kernel_rfl) (by kernel_rfl) (by kernel_rfl) (fun _ _ _ _ h => h) (by exact hHeld) (fun K hK => ?_)
              go_simp
              refine hK _ ?_
              clear hK K
              refine take_L (i := 6) rfl (by kernel_rfl) (by kernel_rfl) (by kernel_rfl) (by kernel_rfl) (fun _ _ _ _ h => h) (by exact hHeld) (fun K hK => ?_)
              go_simp
              refine hK _ ?_
              clear hK K
              refine take_L (i := 7) rfl (by kernel_rfl) (by kernel_rfl) (by kernel_rfl) (by kernel_rfl) (fun _ _ _ _ h => h) (by exact hHeld) (fun K hK => ?_)
              go_simp
              refine hK _ ?_
              clear hK K
              refine take_L (i := 8) rfl (by kernel_rfl) (by kernel_rfl) (by kernel_rfl) (by kernel_rfl) (fun _ _ _ _ h => h) (by exact hHeld) (fun K hK => ?_)
              go_simp
              refine hK _ ?_
              clear hK K
              refine one_L (i := 9) (by kernel_rfl) rfl (fun K hK => ?_)
              go_simp
              refine hK.out _ _ (fun h => absurd rfl h) ?_
              clear hK K
              refine done_L (by kernel_rfl) ?_ _
              have HS7 : Hid ((fun w' => Hold W.heap.size (fun k => k = W.heap.size) w' d S ∧ At3 W.heap.size f1 f2 f3 w' ∧ Fls w' (some ⟨b8, o8, none⟩) n8 fs) w7) := HSa.out
              have HN7 := HNa
              clear hHeld hne k0 k1 k2 k3 k4 k5 HSa HNa
              have Hval : Hid (Value.bool true = .bool (decide ((f1, f2, f3) ∈ fs.take (i + 1)))) := by show _ = _; rw [Hnext.out, ← HT.out, Bool.true_or]
              clear HT Hnext
              by_cases h0 : i = 0
              · subst h0
                go_wp2
                go_roundw
                case rel => exact ⟨1, by omega, rfl, Hval.out, HS7.out, HN7.out⟩
                case measure => simp [intOf]; omega
              · obtain ⟨m, rfl⟩ : ∃ m, i = m + 1 := ⟨i - 1, by omega⟩
                obtain ⟨⟨p1, p2, p3⟩, hlt', hpc⟩ := Hprev.out (by omega)
                obtain ⟨z0, z1, z2⟩ := hpc w7 HS7.out.2.2
                obtain ⟨y0, y1, y2⟩ := Hgi.out w7 HS7.out.2.2
                have hbz : ∀ o1 b m v, w7.cell? ⟨b, m, none⟩ = some v → (w7.alloc o1).cell? ⟨b, m, none⟩ = some v := fun o1 b m v hv => (((Below.refl w7.heap.size w7).alloc (Nat.le_refl _) o1).cell (p := ⟨b, m, none⟩) (World.block_lt_of_cell? w7 _ hv)).trans hv
                have u0 := hbz (.cells #[.int .i64 p1, .int .i64 p2, .int .i64 p3] 30) _ _ _ y0
                have u1 := hbz (.cells #[.int .i64 p1, .int .i64 p2, .int .i64 p3] 30) _ _ _ y1
                have u2 := hbz (.cells #[.int .i64 p1, .int .i64 p2, .int .i64 p3] 30) _ _ _ y2
                simp only [Nat.add_sub_cancel] at z0 z1 z2
                clear hbz y0 y1 y2
                have HbZ : Hid (Below w7.heap.size w7 ((w7.alloc (.cells #[.int .i64 p1, .int .i64 p2, .int .i64 p3] 30)).alloc (.cells #[.int .i64 h1, .int .i64 h2, .int .i64 h3] 30))) := ((Below.refl _ _).alloc (Nat.le_refl _) _).alloc (by rw [World.size_alloc]; omega) _
                have HSZ : Hid (Hold W.heap.size (fun k => k = W.heap.size) ((w7.alloc (.cells #[.int .i64 p1, .int .i64 p2, .int .i64 p3] 30)).alloc (.cells #[.int .i64 h1, .int .i64 h2, .int .i64 h3] 30)) d S ∧ At3 W.heap.size f1 f2 f3 ((w7.alloc (.cells #[.int .i64 p1, .int .i64 p2, .int .i64 p3] 30)).alloc (.cells #[.int .i64 h1, .int .i64 h2, .int .i64 h3] 30)) ∧ Fls ((w7.alloc (.cells #[.int .i64 p1, .int .i64 p2, .int .i64 p3] 30)).alloc (.cells #[.int .i64 h1, .int .i64 h2, .int .i64 h3] 30)) (some ⟨b8, o8, none⟩) n8 fs) := ⟨HS7.out.1.inside HbZ.out, HS7.out.2.1.inside HbZ.out, HS7.out.2.2.later HbZ.out⟩
                have HNZ : Hid (Below W.heap.size W ((w7.alloc (.cells #[.int .i64 p1, .int .i64 p2, .int .i64 p3] 30)).alloc (.cells #[.int .i64 h1, .int .i64 h2, .int .i64 h3] 30))) := HN7.out.trans (HbZ.out.mono HN7.out.size)
                have hm1 : IntKind.i64.wrap ((m : Int) + 1 - 1) = (m : Int) := by rw [show (m : Int) + 1 - 1 = m by omega]; exact wrapI (by omega)
                have hmn : (m : Int) < n8 := by omega
                have hmn1 : (m : Int) + 1 < n8 := by omega
                clear HbZ HS7 HN7
                rcases Lt.iff.1 hlt' with hA | ⟨hA, hB | ⟨hB, hC⟩⟩
                · simp only at hA
                  clear hlt'
                  go_wp2
                  go_roundw
                  case rel => exact ⟨m + 2, by omega, by simp; omega, Hval.out, HSZ.out, HNZ.out⟩
                  case measure => simp [intOf]; omega
                · simp only at hA hB
                  subst hA
                  clear hlt'
                  go_wp2
                  go_roundw
                  case rel => exact ⟨m + 2, by omega, by simp; omega, Hval.out, HSZ.out, HNZ.out⟩
                  case measure => simp [intOf]; omega
                · simp only at hA hB hC
                  subst hA hB
                  clear hlt'
                  go_wp2
                  go_roundw
                  case rel => exact ⟨m + 2, by omega, by simp; omega, Hval.out, HSZ.out, HNZ.out⟩
                  case measure => simp [intOf]; omega
          · obtain rfl : i = n8 := by omega
            have y0 := HS.out.2.1.1
            have y1 := HS.out.2.1.2.1
            have y2 := HS.out.2.1.2.2
            have htake : fs.take i = fs := List.take_of_length_le (by rw [Hfn.out]; exact Nat.le_refl _)
            rw [htake]
            have hpos := len_pos Hgood.out (f1, f2, f3)
            rw [← Hfse.out] at hpos
            by_cases hm : (f1, f2, f3) ∈ fs
            · rw [decide_eq_true hm]
              have hL := hpos.2 hm
              go_wp2_with fail
              refine (hlen W.heap.size (fun k => k = W.heap.size) d S f1 f2 f3 Hf.out wr HS.out.1).mono ?_
              rintro e w6 ⟨rfl, hb6⟩
              have R := HP.out w6 (HN.out.trans (hb6.mono HN.out.size))
              generalize lenOf (at_ S.l) (f1, f2, f3) = LL at *
              clear HP HS HN hpos hb6
              go_wp2
              exact R
            · rw [decide_eq_false hm]
              have hL : ¬ 0 < lenOf (at_ S.l) (f1, f2, f3) := fun h => hm (hpos.1 h)
              go_wp2_with fail
              refine (hlen W.heap.size (fun k => k = W.heap.size) d S f1 f2 f3 Hf.out wr HS.out.1).mono ?_
              rintro e w6 ⟨rfl, hb6⟩
              have R := HP.out w6 (HN.out.trans (hb6.mono HN.out.size))
              generalize lenOf (at_ S.l) (f1, f2, f3) = LL at *
              have hd : decide (0 < LL) = false := decide_eq_false (by omega)
              clear HP HS HN hpos hb6
              go_wp2
              exact R
end Go.Proofs.Ytfpcfgfpebdplaa
