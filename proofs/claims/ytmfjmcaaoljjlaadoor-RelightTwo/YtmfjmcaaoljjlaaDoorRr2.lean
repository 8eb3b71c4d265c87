/-
  The landed relight: what the function does that is shown the neighbours.
  The landed relight: dark cells wait for what they are due, and are given it.
-/
import Derived.Test.YtmfjmcaaoljjlaaDoorRw
import Derived.Test.YtmfjmcaaoljjlaaDoorRa30
import Derived.Test.YtmfjmcaaoljjlaaDoorRd3
set_option maxRecDepth 20000
namespace Go.Proofs.YtmfjmcaaoljjlaaDoor
section
open C Go.RowKit L

/-- What does not change while a cell's neighbours are shown. -/
structure RE where
  e : LE
  B : World
  gw : Nat
  bx : Nat
  b8 : Nat
  level : Nat
  k : Nat
  c : Nat
  m : Nat
  ls : List Int
  wl : List Nat
  al : Option Addr
  cl : Nat
structure ROk (r : RE) (o : LO r.e) : Prop where
  lm : LM r.e r.B
  l1 : 1 ≤ r.level
  l15 : r.level ≤ 15
  hm : r.m < r.e.n
  lev : li r.ls r.m = r.level
  c6 : r.c + 6 ≤ 90000000
/-- The slices of the lists. -/
def RI (r : RE) (o : LO r.e) (dn : List Nat) (w : World) : Prop := ∃ wait av cv, Rl (r.e.sys o.bx) (Exc r.m dn) (li r.ls) wait r.level r.k ∧ Rq r.e r.B r.gw r.bx r.ls wait av cv w ∧ (∀ v, (wait v).length ≤ r.c + dn.length) ∧ (wait r.level = r.wl ∧ av r.level = r.al ∧ cv r.level = r.cl) ∧ w.heap[r.b8]? = some (.cells #[.int .i64 (r.level : Int)] 3 (0, 0)) ∧ ∀ v, v < 16 → Value.ownBlock (slW av cv (wI wait) v) ≠ some r.b8
theorem RI.on {r : RE} {o : LO r.e} {dn : List Nat} {w w' : World} (h : RI r o dn w) (hb : Below w.heap.size w w') : RI r o dn w' := by
  obtain ⟨wait, av, cv, h1, h2, h3, h4, h5, h6⟩ := h
  exact ⟨wait, av, cv, h1, h2.on hb, h3, h4, (hb.block _ (Array.getElem?_eq_some_iff.1 h5).1).trans h5, h6⟩
set_option maxRecDepth 1000000 in
set_option maxHeartbeats 4000000 in
theorem relight1_c (r : RE) (o : LO r.e) (ok : ROk r o) (dn : List Nat) (hdn : dn.length < 6) (k j : Nat) (hk : k < 6) (hn : nbr r.e.W r.e.D r.e.T r.m k = some j) (w : World) (h : RI r o dn w) :
    Calls Tryd.prog 30 #[.int .i64 (j : Int), .pointer (some ⟨r.b8, 0, none⟩), .pointer (some ⟨r.bx, 0, none⟩), .pointer (some ⟨r.gw, 0, none⟩)] w fun x w' => x = .returned (.tuple #[]) ∧ RI r o (dn ++ [j]) w' ∧ Ty77 w w' := by
  obtain ⟨Post, hPost⟩ : ∃ Post : Ending → World → Prop, Post = fun x w' => x = .returned (.tuple #[]) ∧ RI r o (dn ++ [j]) w' ∧ Ty77 w w' := ⟨_, rfl⟩
  rw [← hPost]
  have HP : Hid (∀ w', RI r o (dn ++ [j]) w' → Ty77 w w' → Post (.returned (.tuple #[])) w') := fun w' h1 h2 => by rw [hPost]; exact ⟨rfl, h1, h2⟩
  clear hPost
  have hj : j < r.e.n := nbr_lt o.bx.w0 o.bx.d0 ok.hm hn
  have Hj : Hid (j < r.e.n ∧ j ∈ nbl r.e.W r.e.D r.e.T r.m) := ⟨hj, mem_of_nbr hk hn⟩
  have Hok : Hid (ROk r o) := ok
  have Hdn : Hid (dn.length < 6) := hdn
  obtain ⟨wait, av, cv, hRl, hRq, hsz, hwl, h8, h8n⟩ := h
  have HRl : Hid (Rl (r.e.sys o.bx) (Exc r.m dn) (li r.ls) wait r.level r.k) := hRl
  have HW : Hid ((∀ v, (wait v).length ≤ r.c + dn.length) ∧ (wait r.level = r.wl ∧ av r.level = r.al ∧ cv r.level = r.cl) ∧ ∀ v, v < 16 → Value.ownBlock (slW av cv (wI wait) v) ≠ some r.b8) := ⟨hsz, hwl, h8n⟩
  have HQ : Hid (Rq r.e r.B r.gw r.bx r.ls wait av cv w ∧ w.heap[r.b8]? = some (.cells #[.int .i64 (r.level : Int)] 3 (0, 0))) := ⟨hRq, h8⟩
  have hM := hRq.lm o ok.lm
  have y0 := hM.l0
  have x8 : w.cell? ⟨r.b8, 0, none⟩ = some (.int .i64 (r.level : Int)) := (cell_of_row w r.b8 0 _ 3 (0, 0) h8).trans rfl
  have xb : w.cell? ⟨r.bx, 0, none⟩ = some (.pointer (some ⟨r.e.q, r.e.o, none⟩)) := (cell_of_row w r.bx 0 _ 67 (0, 0) hRq.hb).trans rfl
  obtain ⟨F, hF⟩ : ∃ F, lossF (r.e.ks.getD j 0) = F := ⟨_, rfl⟩
  have hFb := lossBd (r.e.ks.getD j 0)
  rw [hF] at hFb
  have HF : Hid (lossF (r.e.ks.getD j 0) = F) := hF
  have HLs : Hid (∀ s : Since w, Calls Tryd.prog 31 #[.pointer (some ⟨r.e.p, 0, none⟩), .int .i64 (j : Int)] s.w fun x w' => x = .returned (.int .i64 (F : Int)) ∧ Below s.w.heap.size s.w w') := fun s => by
    have := loss_c r.e o j hj s.w (hM.bm.on s.bel)
    rwa [hF] at this
  obtain ⟨f1, f16⟩ := hFb
  have lv1 := ok.l1
  have lv15 := ok.l15
  have wg : IntKind.i64.wrap ((r.level : Int) - (F : Int)) = (r.level : Int) - (F : Int) := by rw [IntKind.wrap_i64]; omega
  clear hRl hRq hsz hwl h8 h8n hM hF ok hn hk hdn
  go_enter Tryd.func30, Tryd.ntmps30
  go_wp2_with fail
  refine wp_region_since (by kernel_rfl) (by kernel_rfl) ?_
  have hsome := since_some w
  have q0 := fun s : Since w => Since.cell x8 s
  have q1 := fun s : Since w => Since.cell xb s
  have q2 := fun s : Since w => Since.cell y0 s
  repeat (go_big_quiet_step (first | (go_at_call 31; exact Calls.since (HLs.out _))))
  refine wpQuiet_nil ?_
  rintro _ ⟨s, rfl⟩
  have HQ1 : Hid (Rq r.e r.B r.gw r.bx r.ls wait av cv s.w ∧ s.w.heap[r.b8]? = some (.cells #[.int .i64 (r.level : Int)] 3 (0, 0)) ∧ Ty77 w s.w) := ⟨HQ.out.1.on s.bel, (s.bel.block _ (Array.getElem?_eq_some_iff.1 HQ.out.2).1).trans HQ.out.2, Ty77.below s.bel⟩
  generalize s.w = w1 at *
  clear hsome q0 q1 q2 HLs HQ x8 xb y0 wg
  have hM1 := HQ1.out.1.lm o Hok.out.lm
  have xb : w1.cell? ⟨r.bx, 0, none⟩ = some (.pointer (some ⟨r.e.q, r.e.o, none⟩)) := (cell_of_row w1 r.bx 0 _ 67 (0, 0) HQ1.out.1.hb).trans rfl
  have y2 := hM1.l2
  have cl := HQ1.out.1.pl.cell (k := j) (by rw [HQ1.out.1.len]; exact Hj.out.1)
  have hlj := HQ1.out.1.lv j
  obtain ⟨A, hA⟩ : ∃ A, r.ls.getD j 0 = A := ⟨_, rfl⟩
  have HA : Hid (r.ls.getD j 0 = A) := hA
  rw [hA] at cl hlj
  obtain ⟨a0, a15⟩ := hlj
  obtain ⟨n, hnn⟩ : ∃ n, r.e.n = n := ⟨_, rfl⟩
  have hjn : (j : Int) < n := by omega
  rw [hnn] at y2
  obtain ⟨V, hV⟩ : ∃ V : Int, (r.level : Int) - (F : Int) = V := ⟨_, rfl⟩
  have HV : Hid ((r.level : Int) - (F : Int) = V) := hV
  rw [hV]
  clear hM1 hA hnn hV hj
  by_cases hgt : A < V
  case neg =>
    have R := HP.out w1 (by
      refine ⟨wait, av, cv, HRl.out.none (fun hp => ?_), HQ1.out.1, fun v => ?_, HW.out.2.1, HQ1.out.2.1, HW.out.2.2⟩
      · have hp' : passK (r.e.ks.getD j 0) = true := by rw [← sys_pass (e := r.e) o.bx]; exact hp
        have e1 := lossF_pass hp'
        rw [sys_loss, ← e1, HF.out, Hok.out.lev]
        have := HV.out
        unfold li
        rw [HA.out]
        omega
      · have := HW.out.1 v
        rw [List.length_append]
        exact Nat.le_trans this (by simp)) HQ1.out.2.2
    clear HP HRl HQ1 HW HA HF HV Hok Hj Hdn
    go_wp2
    exact bodyPost_end (results_none rfl _ _ _) rfl R
  obtain ⟨v, rfl⟩ := Int.eq_ofNat_of_zero_le (show 0 ≤ V by omega)
  have v16 : v < 16 := by have := HV.out; omega
  have v16' : (v : Int) < 16 := by omega
  have hS := HQ1.out.1
  have hwl : (wI wait v).length ≤ 100000000 := by
    unfold wI
    rw [List.length_map]
    have h1 := HW.out.1 v
    have h2 := Hok.out.c6
    have h3 := Hdn.out
    omega
  have cs := hS.wv.out v v16
  unfold slW at cs
  have fz := hS.wv.free v
  obtain ⟨Ln, hLn⟩ : ∃ Ln, (wI wait v).length = Ln := ⟨_, rfl⟩
  rw [hLn] at cs hwl
  have HLn : Hid ((wI wait v).length = Ln) := hLn
  have hb2 : Below w1.heap.size w1 (w1.alloc (.cells #[.int .i64 (j : Int)] 3)) := (Below.refl _ _).alloc (Nat.le_refl _) _
  have HQ2 : Hid (Rq r.e r.B r.gw r.bx r.ls wait av cv (w1.alloc (.cells #[.int .i64 (j : Int)] 3)) ∧ (w1.alloc (.cells #[.int .i64 (j : Int)] 3)).heap[r.b8]? = some (.cells #[.int .i64 (r.level : Int)] 3 (0, 0)) ∧ Ty77 w (w1.alloc (.cells #[.int .i64 (j : Int)] 3))) :=
    ⟨hS.on hb2, (hb2.block _ (Array.getElem?_eq_some_iff.1 HQ1.out.2.1).1).trans HQ1.out.2.1, HQ1.out.2.2.trans (Ty77.below hb2)⟩
  have HB : Hid (r.B.heap.size ≤ (w1.alloc (.cells #[.int .i64 (j : Int)] 3)).heap.size) := HQ2.out.1.gr.size
  have HSl : Hid (∀ xs : List Int, xs = wI wait v → OwnI (w1.alloc (.cells #[.int .i64 (j : Int)] 3)) r.B.heap.size (av v) (cv v) xs) := fun xs h => by rw [h]; exact HQ2.out.1.wv.own v v16
  clear hS hLn hb2
  go_wp2_with (at_builtin; refine wpList_append_int rfl _ _ rfl r.B.heap.size (av v) Ln (cv v) (wI wait v) HLn.out rfl (HSl.out _ rfl) ⟨w1.heap.size, 0, none⟩ (j : Int) rfl (cell_one_int _ _ _) hwl HB.out ?_; intro a9 c9 w9 HO3 hg3 hat3; have f1 := cell_kept9 HQ2.out.1 v16 HLn.out hg3 (HQ2.out.1.wv.out v v16); have f2 := free_kept9 HQ2.out.1 v16 HLn.out hg3 v; have Hg3 : Hid _ := hg3; have Hat3 : Hid _ := hat3; clear hg3 hat3)
  have hLn := HLn.out
  have hps : passK (r.e.ks.getD j 0) = true := by
    by_cases q : passK (r.e.ks.getD j 0) = true
    · exact q
    · have q' : passK (r.e.ks.getD j 0) = false := by simpa using q
      have e1 := lossF_shut q'
      rw [HF.out] at e1
      have := HV.out
      omega
  have hpass : (r.e.sys o.bx).pass j = true := (sys_pass (e := r.e) o.bx j).trans hps
  have hloss : (r.e.sys o.bx).loss j = F := by rw [sys_loss, ← lossF_pass hps, HF.out]
  have hvl : v + (r.e.sys o.bx).loss j = r.level := by rw [hloss]; have := HV.out; omega
  have hadj : (r.e.sys o.bx).adj r.m j := (sys_adj (e := r.e) o.bx r.m j).2 ⟨Hok.out.hm, Hj.out.2⟩
  have hvne : r.level ≠ v := by have := HV.out; omega
  have hpush := HQ2.out.1.push (n := j) v16 HO3.out (by have := Hg3.out; rw [← hLn] at this; exact this) (by have := Hat3.out; rw [← hLn] at this; exact this)
  rw [hLn] at hpush
  have hgn := Hg3.out
  rw [← hLn] at hgn
  obtain ⟨gc, hgc, _⟩ := HQ2.out.1.wv.blk
  have hb8 : (w9.setCell ⟨r.gw, v, none⟩ (.slice a9 (Ln + 1) c9)).heap[r.b8]? = some (.cells #[.int .i64 (r.level : Int)] 3 (0, 0)) := by
    refine (Below.heap_setCell w9 _ _ r.b8 (fun q => ?_)).trans (HQ2.out.1.kept v16 hgn HQ2.out.2.1 (HW.out.2.2 v v16))
    have q : r.b8 = r.gw := q
    have := HQ2.out.2.1
    rw [q, hgc] at this
    cases this
  have hty : Ty77 w (w9.setCell ⟨r.gw, v, none⟩ (.slice a9 (Ln + 1) c9)) := by
    refine (HQ2.out.2.2.trans (Ty77.grown hgn (fun b hb => ?_))).trans (Ty77.set _ (HQ2.out.1.kept v16 hgn hgc (HQ2.out.1.other v16 hgc (by decide))) (by decide))
    obtain ⟨_, cu, hcu⟩ := own_block (HQ2.out.1.wv.own v v16) hb
    exact ⟨cu, 3, hcu, by decide⟩
  have R := HP.out (w9.setCell ⟨r.gw, v, none⟩ (.slice a9 (Ln + 1) c9)) (by
    refine ⟨_, _, _, HRl.out.wait Hok.out.lev hadj hpass hvl, hpush, fun u => ?_, ⟨?_, ?_, ?_⟩, hb8, fun u hu => ?_⟩
    · have h1 := HW.out.1 u
      have h2 := HW.out.1 v
      rw [List.length_append]
      show (pushW wait v j u).length ≤ _
      by_cases q : u = v
      · show (if u = v then wait v ++ [j] else wait u).length ≤ _
        rw [if_pos q, List.length_append]
        simp only [List.length_cons, List.length_nil]
        omega
      · show (if u = v then wait v ++ [j] else wait u).length ≤ _
        rw [if_neg q]; omega
    · show (if r.level = v then wait v ++ [j] else wait r.level) = _
      rw [if_neg hvne]; exact HW.out.2.1.1
    · rw [updA_other _ _ hvne]; exact HW.out.2.1.2.1
    · rw [updA_other _ _ hvne]; exact HW.out.2.1.2.2
    · have hsl : slW (updA av v a9) (updA cv v c9) (wI (pushW wait v j)) u = if u = v then .slice a9 (Ln + 1) c9 else slW av cv (wI wait) u := by
        rw [pushW_wI]
        unfold slW
        by_cases q : u = v
        · subst q; rw [updA_same, updA_same, updA_same, if_pos rfl, List.length_append, hLn]; rfl
        · rw [updA_other _ _ q, updA_other _ _ q, updA_other _ _ q, if_neg q]
      rw [hsl]
      by_cases q : u = v
      · rw [if_pos q]
        intro q2
        rcases Hat3.out with q3 | q3
        · rw [q3] at q2
          rw [← hLn] at q2
          exact HW.out.2.2 v v16 q2
        · rw [q3] at q2
          have := (Array.getElem?_eq_some_iff.1 HQ2.out.2.1).1
          injection q2 with q2
          omega
      · rw [if_neg q]; exact HW.out.2.2 u hu) hty
  clear HP HRl HQ1 HQ2 HW HA HF HV Hok Hj Hdn HSl HB HLn Hg3 Hat3 HO3
  exact bodyPost_end (results_none rfl _ _ _) rfl R
theorem relight_sh (r : RE) (o : LO r.e) (ok : ROk r o) : Sh r.e r.m 30 r.b8 r.bx r.gw (RI r o) where
  bm dn w h := by
    obtain ⟨wait, av, cv, _, h2, _⟩ := h
    exact (h2.lm o ok.lm).bm
  on dn w w' h hb := h.on hb
  call k j dn w hk hl hn h := relight1_c r o ok dn (by omega) k j hk hn w h
theorem relight2_c (r : RE) (o : LO r.e) (ok : ROk r o) (w : World) (h : RI r o [] w) :
    Calls Tryd.prog 29 #[.pointer (some ⟨r.e.p, 0, none⟩), .int .i64 (r.m : Int), .func (.func 30) #[] #[.pointer (some ⟨r.b8, 0, none⟩), .pointer (some ⟨r.bx, 0, none⟩), .pointer (some ⟨r.gw, 0, none⟩)]] w fun x w' => x = .returned (.tuple #[]) ∧ RI r o (nbl r.e.W r.e.D r.e.T r.m) w' :=
  around30_c r.e o r.m ok.hm r.b8 r.bx r.gw _ (relight_sh r o ok) w h
end
section
open C Go.RowKit L

/-- A list of shadows: the cells that were darkened. -/
def Dk (w : World) (db : Nat) (dk : List Nat) : Prop := ∃ cur, w.heap[db]? = some (.cells cur 64 (0, 0)) ∧ ∀ k x, dk[k]? = some x → cur[k * 2]? = some (.int .i64 ((x : Nat) : Int)) ∧ ∃ h : Int, cur[k * 2 + 1]? = some (.int .i64 h)
theorem Dk.on {w w' : World} {db : Nat} {dk : List Nat} (h : Dk w db dk) (hb : Below w.heap.size w w') : Dk w' db dk := by
  obtain ⟨cur, hc, hr⟩ := h
  exact ⟨cur, (hb.block _ (Array.getElem?_eq_some_iff.1 hc).1).trans hc, hr⟩
theorem Dk.grown {w w' : World} {db g : Nat} {dk : List Nat} (h : Dk w db dk) (hg : w.grownBy w' (some g)) (hne : db ≠ g) : Dk w' db dk := by
  obtain ⟨cur, hc, hr⟩ := h
  exact ⟨cur, (hg.block _ (Array.getElem?_eq_some_iff.1 hc).1 (fun e => hne (by cases e; rfl))).trans hc, hr⟩
def slZ : Value := .slice none 0 0
theorem z70 : Tryd.t70.zero = some (.agg (List.replicate 16 slZ).toArray) := by kernel_rfl
theorem zero70 (w : World) : (zeroValue 70).run Tryd.prog w = .ok (.agg (List.replicate 16 slZ).toArray) w := by
  unfold zeroValue
  rw [Sem.run_bind, Tryd.typeInfo70, Result.andThen_ok, z70]
  rfl
theorem ownI_nil (w : World) (lo : Nat) : OwnI w lo none 0 [] := by
  refine ⟨by decide, .inl ⟨rfl, ?_⟩⟩
  rfl
theorem wv_start {w : World} {B gw : Nat} (h : w.heap[gw]? = some (.cells (List.replicate 16 slZ).toArray 70 (0, 0))) (hB : B ≤ gw) : Wv B w gw (fun _ => none) (fun _ => 0) (wI fun _ => []) where
  blk := ⟨_, h, by simp⟩
  out v hv := by
    rw [cell_of_row w gw v _ 70 (0, 0) h]
    rw [List.getElem?_toArray, List.getElem?_replicate, if_pos hv]
    rfl
  own v hv := ownI_nil w B
  apart u v g hu hv hne h1 := by simp [Value.ownBlock] at h1
  base := hB
theorem src_out {e : LE} (hb : Bx e.W e.D e.T) {i : Nat} (hi : e.n ≤ i) : (e.sys hb).src i = 0 := by
  rw [sys_src]
  have h : ¬ i < e.W * e.D * e.T := Nat.not_lt.2 hi
  unfold skyN lampN
  by_cases q : e.sky = true
  · rw [if_pos q, if_neg (fun r => h r.1)]
  · rw [if_neg q, if_neg h]
theorem wrap8 {x : Int} (h0 : 0 ≤ x) (h1 : x ≤ 255) : IntKind.u8.wrap x = x := by rw [IntKind.wrap_u8]; omega
/-- A cell of a list of one's own. -/
theorem own_at {w : World} {lo c k : Nat} {a : Option Addr} {xs : List Int} {y : Int} (h : OwnI w lo a c xs) (hk : xs[k]? = some y) : ∃ g, a = some ⟨g, 0, none⟩ ∧ w.cell? ⟨g, k, none⟩ = some (.int .i64 y) := by
  have hlt : k < xs.length := (List.getElem?_eq_some_iff.1 hk).1
  rcases h.2 with ⟨h0, h1⟩ | ⟨g, cap, cur, hv, _, hh, _, _, _, ht⟩
  · omega
  · simp only [Value.slice.injEq, true_and] at hv
    obtain ⟨rfl, rfl⟩ := hv
    refine ⟨g, rfl, ?_⟩
    have ht' : cur.toList.take (xs.length * 1) = ivs xs := ht
    have e1 : (cur.toList.take (xs.length * 1))[k]? = some (.int .i64 y) := by
      rw [ht']
      unfold ivs
      rw [List.getElem?_map, hk]; rfl
    rw [cell_of_row w g k cur 3 (0, 0) hh]
    rw [List.getElem?_take, if_pos (by omega)] at e1
    simpa using e1
end
end Go.Proofs.YtmfjmcaaoljjlaaDoor
