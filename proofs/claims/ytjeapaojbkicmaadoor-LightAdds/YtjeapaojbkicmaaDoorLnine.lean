/-
  The document's Nine: the field of nine chunks.
-/
import Derived.Test.YtjeapaojbkicmaaDoorLheld
import Derived.Test.YtjeapaojbkicmaaDoorLlamp
import Derived.Test.YtjeapaojbkicmaaDoorLLaws
set_option maxRecDepth 20000
namespace Go.Proofs.YtjeapaojbkicmaaDoor
open C Go.RowKit L

/-- Nine rows of kinds in memory. -/
structure Nr (w : World) (gn : Nat) (ga gc : Nat → Nat) (css : List (List Int)) : Prop where
  out : ∀ j, j < 9 → w.cell? ⟨gn, j, none⟩ = some (.slice (some ⟨ga j, 0, none⟩) 32768 (gc j))
  cap : ∀ j, j < 9 → 32768 ≤ gc j
  row : ∀ j, j < 9 → Pre w (ga j) 5 (css.getD j [])
  len : ∀ j, j < 9 → (css.getD j []).length = 32768
theorem Nr.on {w w' : World} {gn : Nat} {ga gc : Nat → Nat} {css : List (List Int)} (h : Nr w gn ga gc css) (hb : Below w.heap.size w w') : Nr w' gn ga gc css :=
  ⟨fun j hj => cell_below (h.out j hj) hb, h.cap, fun j hj => (h.row j hj).below hb (h.row j hj).lt, h.len⟩
def bvs (xs : List Int) : List Value := xs.map (Value.int .u8)
def OwnB (w : World) (lo : Nat) (a : Option Addr) (c : Nat) (xs : List Int) : Prop := w.ownsRow lo 5 1 (.slice a xs.length c) xs.length (bvs xs)
theorem wpList_append_bs {w : World} {ops : Array Oper} {rest : List Oper} {o : Oper} {a : Act} {Q : Exit → Act → World → Prop} (hgd : o.guard = none) (s x : Operand)
    (ho : o.op = .call { callee := .builtin .append, args := #[s, x], argTypes := #[28, 28] }) (B : Nat) (av : Option Addr) (n cv : Nat) (L : List Int) (hn : L.length = n) (hs : a.eval s = .slice av n cv) (hown : OwnB w B av cv L)
    (g off c : Nat) (ys : List Int) (hy : ys.length = 16) (hx : a.eval x = .slice (some ⟨g, off, none⟩) 16 c) (hnews : ∀ j, j < 16 → w.cell? ⟨g, off + j, none⟩ = some (.int .u8 (ys.getD j 0))) (hle : n ≤ 100000000) (hB : B ≤ w.heap.size)
    (h : ∀ a' c' w', Hid (OwnB w' B a' c' (L ++ ys)) → w.grownBy w' (Value.ownBlock (.slice av n cv)) → wpList Tryd.prog ops Q rest (a.put o.dst (.slice a' (n + 16) c')) w') : wpList Tryd.prog ops Q (o :: rest) a w := by
  obtain ⟨i, hi, hz0, hz1, hz2⟩ := info_parts C.info5
  subst hn
  refine wpList_append_own_at w hgd s x 28 ho B 5 i _ 1 1 Tryd.underlying28 hi hz0 hz1 hz2 rfl (by decide) _ _ _ hs hown ⟨g, off, none⟩ 16 c (bvs ys) hx (by simp [bvs, hy]) (fun j u hj => ?_) (by simp [bvs, Value.oneCell']) (by unfold maxLen; omega) (by omega) hB ?_
  · unfold bvs at hj
    rw [List.getElem?_map] at hj
    obtain ⟨v, hv, rfl⟩ := Option.map_eq_some_iff.1 hj
    have hjl := (List.getElem?_eq_some_iff.1 hv).1
    rw [Addr.add_mid, hnews j (by omega), List.getD_eq_getElem?_getD, hv]
    rfl
  intro v' w' h1 h2 _ _
  have e : ∃ a' c', v' = .slice a' (L.length + 16) c' := by
    rcases h1.2 with ⟨hv, hn⟩ | ⟨g, cap, _, hv, _⟩
    · omega
    · exact ⟨_, _, hv⟩
  obtain ⟨a', c', rfl⟩ := e
  refine h a' c' w' ?_ h2
  show OwnB _ _ _ _ _
  unfold OwnB bvs
  rw [List.length_append, hy, List.map_append]
  exact h1
theorem sizeOf5L (w : World) : (sizeOf 5).run Tryd.prog w = .ok 1 w := by kernel_rfl
theorem slice_at (b n c k : Nat) (h1 : k + 16 ≤ n) (h2 : n ≤ c) : ∀ w, (Instr.sliceAt 28 (.slice (some ⟨b, 0, none⟩) n c) (some (.int .i64 (k : Int))) (some (.int .i64 ((k : Int) + 16))) none).run Tryd.prog w = .ok (.slice (some ⟨b, k, none⟩) 16 (c - k)) w := fun w => by
  rw [run_sliceAt_slice w 28 _ _ _ _ (by kernel_rfl), run_slice_lh w 28 (some ⟨b, 0, none⟩) n c (by kernel_rfl) .i64 .i64 k (k + 16) (by omega) (by omega) (by omega), show Tryd.prog.elem 28 = 5 by kernel_rfl, sizeOf5L, Result.andThen_ok]
  unfold sliced
  by_cases hc : c - k = 0
  · omega
  rw [if_neg (by omega), show ((k : Int) + 16).toNat - (k : Int).toNat = 16 by omega, show (k : Int).toNat = k by omega]
  show Result.ok (Value.slice (some ((⟨b, 0, none⟩ : Addr).add (k * 1))) 16 (c - k)) w = _
  rw [Addr.add_mid, Nat.mul_one, Nat.zero_add]
/-- The first m times sixteen kinds. -/
def nb (css : List (List Int)) (m : Nat) : List Int := (List.range (16 * m)).map (kAt css)
theorem nb_len (css : List (List Int)) (m : Nat) : (nb css m).length = 16 * m := by simp [nb]
theorem nb_next (css : List (List Int)) {y z x : Nat} (hz : z < 48) (hx : x < 3) : nb css ((y * 48 + z) * 3 + x + 1) = nb css ((y * 48 + z) * 3 + x) ++ (List.range 16).map (fun t => (css.getD (z / 16 * 3 + x) []).getD (y * 256 + z % 16 * 16 + t) 0) := by
  unfold nb
  rw [show 16 * ((y * 48 + z) * 3 + x + 1) = 16 * ((y * 48 + z) * 3 + x) + 16 by omega, List.range_add, List.map_append, List.map_map]
  congr 1
  refine List.map_congr_left fun t ht => ?_
  have ht := List.mem_range.1 ht
  show kAt css (16 * ((y * 48 + z) * 3 + x) + t) = _
  rw [show 16 * ((y * 48 + z) * 3 + x) + t = (y * 48 + z) * 48 + (16 * x + t) by omega, kAt_of css (by omega) hz, show (16 * x + t) / 16 = x by omega, show (16 * x + t) % 16 = t by omega]
/-- Where Nine stands. -/
structure Ni (w : World) (css : List (List Int)) (m : Nat) (a : Option Addr) (c : Nat) (W : World) : Prop where
  fd : Fd W w.heap.size 48 48 128 (.slice a (16 * m) c)
  own : OwnB W w.heap.size a c (nb css m)
  bel : Below w.heap.size w W
theorem Ni.next {w : World} {css : List (List Int)} {m : Nat} {a a' : Option Addr} {c c' : Nat} {W W' : World} (h : Ni w css m a c W) (ho : OwnB W' w.heap.size a' c' (nb css (m + 1))) (hg : W.grownBy W' (Value.ownBlock (.slice a (16 * m) c))) : Fd W' w.heap.size 48 48 128 (.slice a (16 * m) c) ∧ Ni w css (m + 1) a' c' (W'.setCell ⟨w.heap.size, 3, none⟩ (.slice a' (16 * m + 16) c')) := by
  have hne : ∀ g, Value.ownBlock (.slice a (16 * m) c) = some g → w.heap.size ≤ g ∧ ∃ cur, W.heap[g]? = some (.cells cur 5 (0, 0)) := fun g hg' => by
    have h1 := h.own
    unfold OwnB at h1
    rw [nb_len] at h1
    rcases h1.2 with ⟨e, _⟩ | ⟨g', cap, cur, hv, hb, hh, _⟩
    · rw [e] at hg'; simp [Value.ownBlock] at hg'
    · rw [hv] at hg'
      obtain rfl : g' = g := by simpa [Value.ownBlock] using hg'
      exact ⟨hb, cur, hh⟩
  have hfd := h.fd
  unfold Fd at hfd
  have hF : Fd W' w.heap.size 48 48 128 (.slice a (16 * m) c) := (hg.block _ (Array.getElem?_eq_some_iff.1 hfd).1 (fun q => by
    obtain ⟨_, cur, h2⟩ := hne _ q.symm
    rw [hfd] at h2
    cases h2)).trans hfd
  have hF' : Fd (W'.setCell ⟨w.heap.size, 3, none⟩ (.slice a' (16 * m + 16) c')) w.heap.size 48 48 128 (.slice a' (16 * m + 16) c') := heap_setCell_same W' w.heap.size 3 _ 41 _ hF
  have hgr : W'.grownBy (W'.setCell ⟨w.heap.size, 3, none⟩ (.slice a' (16 * m + 16) c')) (some w.heap.size) := ⟨rfl, rfl, rfl, by simp [World.setCell], fun j _ hj => Below.heap_setCell W' ⟨w.heap.size, 3, none⟩ _ j (fun e => hj (by rw [e]))⟩
  refine ⟨hF, hF', ?_, ?_⟩
  · refine ownsRow_apart ho hgr (fun g hg2 e => ?_)
    cases e
    have h1 := ho
    unfold OwnB at h1
    rcases h1.2 with ⟨e, _⟩ | ⟨g', cap, cur, hv, hb, hh, _⟩
    · rw [e] at hg2; simp [Value.ownBlock] at hg2
    · rw [hv] at hg2
      obtain rfl : g' = w.heap.size := by simpa [Value.ownBlock] using hg2
      rw [show W'.heap[w.heap.size]? = _ from hF] at hh
      cases hh
  · have hb := h.bel
    refine ⟨hg.os.trans hb.os, hg.tape.trans hb.tape, hg.output.trans hb.output, ?_, fun j hj => ?_⟩
    · have := hb.size
      have := hg.size
      simp [World.setCell]
      omega
    · refine (Below.heap_setCell W' _ _ j (by show j ≠ w.heap.size; omega)).trans ((hg.block j (Nat.lt_of_lt_of_le hj hb.size) (fun q => ?_)).trans (hb.block j hj))
      have := (hne _ q.symm).1
      omega
theorem Ni.end {w : World} {css : List (List Int)} {a : Option Addr} {c : Nat} {W : World} (h : Ni w css 18432 a c W) : ∃ kb, a = some ⟨kb, 0, none⟩ ∧ w.heap.size ≤ kb ∧ kb ≠ w.heap.size ∧ Pre W kb 5 (nb css 18432) := by
  have h1 := h.own
  unfold OwnB at h1
  rcases h1.2 with ⟨e, e2⟩ | ⟨g', cap, cur, hv, hb, hh, hk, _, hsz, ht⟩
  · rw [nb_len] at e2; omega
  · injection hv with e1 e2 e3
    refine ⟨g', e1, hb, fun q => ?_, cur, hh, ?_, fun k hk' => ?_⟩
    · subst q
      rw [show W.heap[w.heap.size]? = _ from h.fd] at hh
      cases hh
    · omega
    · have := congrArg (fun l => l[k]?) ht
      unfold bvs at this
      simp only [List.getElem?_map, List.getElem?_take] at this
      rw [if_pos (by omega)] at this
      rw [← Array.getElem?_toList, this, List.getD_eq_getElem?_getD, List.getElem?_eq_getElem hk']
      rfl
attribute [local go_sem] Oper.semAt_some
def Nx (w : World) (css : List (List Int)) (m : Nat) (W : World) : Prop := ∃ a c, Ni w css m a c W
set_option maxRecDepth 100000 in
set_option maxHeartbeats 4000000 in
theorem rnine_c (gn cn : Nat) (ga gc : Nat → Nat) (css : List (List Int)) (w : World) (hN : Nr w gn ga gc css) :
    Calls Tryd.prog 33 #[.slice (some ⟨gn, 0, none⟩) 9 cn] w fun e w' => e = .returned (.pointer (some ⟨w.heap.size, 0, none⟩)) ∧ Nx w css 18432 w' := by
  obtain ⟨Post, hPost⟩ : ∃ Post : Ending → World → Prop, Post = fun e w' => e = .returned (.pointer (some ⟨w.heap.size, 0, none⟩)) ∧ Nx w css 18432 w' := ⟨_, rfl⟩
  rw [← hPost]
  have HP : Hid (∀ w', Nx w css 18432 w' → Post (.returned (.pointer (some ⟨w.heap.size, 0, none⟩))) w') := fun w' h => by rw [hPost]; exact ⟨rfl, h⟩
  clear hPost
  have HR : Hid (Nr w gn ga gc css) := hN
  have H0 : Hid (Nx w css 0 (w.alloc (.cells #[.int .i64 48, .int .i64 48, .int .i64 128, .slice none 0 0] 41))) := ⟨none, 0, heap_alloc_new w _, ⟨by simp [nb, bvs], .inl ⟨by simp [nb], by simp [nb]⟩⟩, (Below.refl _ w).alloc (Nat.le_refl _) _⟩
  clear hN
  go_enter Tryd.func33, Tryd.ntmps33
  go_wp2
  generalize w.alloc (.cells #[.int .i64 48, .int .i64 48, .int .i64 128, .slice none 0 0] 41) = W0 at *
  go_loopw [4] (fun vy wr => ∃ y : Nat, y ≤ 128 ∧ vy = .int .i64 (y : Int) ∧ Hid (Nx w css (y * 48 * 3) wr)) (fun vy _ => 128 - (intOf vy).toNat)
  case atStart => exact ⟨0, by omega, rfl, H0⟩
  case round =>
    clear H0
    obtain ⟨y, hy, rfl, HY⟩ := hrel
    by_cases hlt : y < 128
    case neg =>
      have hge : ¬ (y : Int) < 128 := by omega
      have R := HP.out wr (by obtain rfl : y = 128 := by omega
                              exact HY.out)
      clear HY HP HR
      go_wp2
      exact R
    have hlt' : (y : Int) < 128 := by omega
    go_wp2
    go_loopw [5] (fun vz wr => ∃ z : Nat, z ≤ 48 ∧ vz = .int .i64 (z : Int) ∧ Hid (Nx w css ((y * 48 + z) * 3) wr)) (fun vz _ => 48 - (intOf vz).toNat)
    case atStart => exact ⟨0, by omega, rfl, HY⟩
    case round =>
      clear HY
      obtain ⟨z, hz, rfl, HZ⟩ := hrel
      by_cases hltz : z < 48
      case neg =>
        have hge : ¬ (z : Int) < 48 := by omega
        have HE : Hid (Nx w css ((y + 1) * 48 * 3) wr) := by
          obtain rfl : z = 48 := by omega
          have := HZ.out
          rw [show (y * 48 + 48) * 3 = (y + 1) * 48 * 3 by omega] at this
          exact this
        clear HZ HP HR
        go_wp2
        exact ⟨⟨y + 1, by omega, by simp, HE⟩, by simp [intOf]; omega⟩
      have hltz' : (z : Int) < 48 := by omega
      go_wp2
      go_loopw [6] (fun vx wr => ∃ x : Nat, x ≤ 3 ∧ vx = .int .i64 (x : Int) ∧ Hid (Nx w css ((y * 48 + z) * 3 + x) wr)) (fun vx _ => 3 - (intOf vx).toNat)
      case atStart => exact ⟨0, by omega, rfl, HZ⟩
      case round =>
        clear HZ
        obtain ⟨x, hx, rfl, HX⟩ := hrel
        by_cases hltx : x < 3
        case neg =>
          have hge : ¬ (x : Int) < 3 := by omega
          have HE : Hid (Nx w css ((y * 48 + (z + 1)) * 3) wr) := by
            obtain rfl : x = 3 := by omega
            have := HX.out
            rw [show (y * 48 + z) * 3 + 3 = (y * 48 + (z + 1)) * 3 by omega] at this
            exact this
          clear HX HP HR
          go_wp2
          exact ⟨⟨z + 1, by omega, by simp, HE⟩, by simp [intOf]; omega⟩
        have hltx' : (x : Int) < 3 := by omega
        obtain ⟨av, cv, hI0⟩ := HX.out
        clear HX HP
        obtain ⟨zq, hzq⟩ : ∃ zq, z / 16 = zq := ⟨_, rfl⟩
        obtain ⟨zr, hzr⟩ : ∃ zr, z % 16 = zr := ⟨_, rfl⟩
        have t1 : Int.tdiv (z : Int) 16 = (zq : Int) := by rw [Int.tdiv_eq_ediv_of_nonneg (by omega)]; omega
        have t2 : Int.tmod (z : Int) 16 = (zr : Int) := by rw [Int.tmod_eq_emod_of_nonneg (by omega)]; omega
        obtain ⟨j, hj⟩ : ∃ j : Nat, zq * 3 + x = j := ⟨_, rfl⟩
        obtain ⟨ka, hka⟩ : ∃ ka : Nat, y * 256 + zr * 16 = ka := ⟨_, rfl⟩
        have e1 : (zq : Int) * 3 + (x : Int) = (j : Int) := by omega
        have e2 : (y : Int) * 256 + (zr : Int) * 16 = (ka : Int) := by omega
        have j9 : (j : Int) < 9 := by omega
        have jb : j < 9 := by omega
        have kb : ka + 16 ≤ 32768 := by omega
        have zqb : zq ≤ 2 := by omega
        have zrb : zr ≤ 15 := by omega
        have hc : wr.cell? ⟨gn, j, none⟩ = some (.slice (some ⟨ga j, 0, none⟩) 32768 (gc j)) := cell_below (HR.out.out j jb) hI0.bel
        have hsl := slice_at (ga j) 32768 (gc j) ka kb (HR.out.cap j jb)
        have Hn : Hid (nb css ((y * 48 + z) * 3 + x + 1) = nb css ((y * 48 + z) * 3 + x) ++ (List.range 16).map (fun t => (css.getD j []).getD (ka + t) 0)) := by
          have := nb_next css (y := y) hltz hltx
          rw [hzq, hzr, hj, hka] at this
          exact this
        have hd0 : Below wr.heap.size wr wr.drew := (Below.refl _ wr).drew
        have hI : Ni w css ((y * 48 + z) * 3 + x) av cv wr.drew := ⟨hI0.fd.on hd0, ownsRow_on hI0.own hd0, hI0.bel.trans (hd0.mono hI0.bel.size)⟩
        have Hj : Hid (zq * 3 + x = j ∧ y * 256 + zr * 16 = ka ∧ z / 16 = zq ∧ z % 16 = zr) := ⟨hj, hka, hzq, hzr⟩
        obtain ⟨m, hm⟩ : ∃ m, (y * 48 + z) * 3 + x = m := ⟨_, rfl⟩
        have Hm : Hid ((y * 48 + z) * 3 + x = m ∧ m ≤ 100000) := ⟨hm, by omega⟩
        rw [hm] at Hn hI
        clear hI0 hd0 hj hka hzq hzr hm
        go_wp2_with fail
        clear hc
        refine region_L (fun w' => w'.cell? ⟨w.heap.size, 3, none⟩ = some (.slice av (16 * m) cv)) 13 (by kernel_rfl) ?_
        generalize wr.drew = va at *
        have hHeld : (fun w' : World => w'.cell? ⟨w.heap.size, 3, none⟩ = some (.slice av (16 * m) cv)) va := hI.fd.c3
        have HI : Hid (Ni w css m av cv va) := hI
        clear hI
        have hne : Nonempty (Sub (fun w' : World => w'.cell? ⟨w.heap.size, 3, none⟩ = some (.slice av (16 * m) cv))) := ⟨⟨_, hHeld⟩⟩
        have k0 : ∀ s : Sub (fun w' : World => w'.cell? ⟨w.heap.size, 3, none⟩ = some (.slice av (16 * m) cv)), s.w.cell? ⟨w.heap.size, 3, none⟩ = some (.slice av (16 * m) cv) := fun s => s.ok
        obtain ⟨kc, hkc⟩ : ∃ kc, ka + 16 = kc := ⟨_, rfl⟩
        have wk : IntKind.i64.wrap ((ka : Int) + 16) = (kc : Int) := by rw [IntKind.wrap_i64]; omega
        have gcb := HR.out.cap j jb
        have c1 : kc ≤ gc j := by omega
        have c2 : ka ≤ kc := by omega
        have c3 : kc - ka = 16 := by omega
        have c4 : ¬ gc j = ka := by omega
        clear hkc gcb
        refine take_L (i := 0) rfl (by kernel_rfl) (by kernel_rfl) (by kernel_rfl) (by kernel_rfl) (fun _ _ _ _ h => h) (by exact hHeld) (fun K hK => ?_)
        go_simp
        refine hK _ ?_
        clear hK K
        refine take_L (i := 1) rfl (by kernel_rfl) (by kernel_rfl) (by kernel_rfl) (by kernel_rfl) (fun _ _ _ _ h => h) (by exact hHeld) (fun K hK => ?_)
        go_simp
        refine hK _ ?_
        clear hK K
        refine take_L (i := 2) rfl (by kernel_rfl) (by kernel_rfl) (by kernel_rfl) (by kernel_rfl) (fun _ _ _ _ h => h) (by exact hHeld) (fun K hK => ?_)
        go_simp
        refine hK _ ?_
        clear hK K
        refine take_L (i := 3) rfl (by kernel_rfl) (by kernel_rfl) (by kernel_rfl) (by kernel_rfl) (fun _ _ _ _ h => h) (by exact hHeld) (fun K hK => ?_)
        go_simp
        refine hK _ ?_
        clear hK K
        refine take_L (i := 4) rfl (by kernel_rfl) (by kernel_rfl) (by kernel_rfl) (by kernel_rfl) (fun _ _ _ _ h => h) (by exact hHeld) (fun K hK => ?_)
        go_simp
        refine hK _ ?_
        clear hK K
        refine take_L (i := 5) rfl (by kernel_rfl) (by kernel_rfl) (by kernel_rfl) (by kernel_rfl) (fun _ _ _ _ h => h) (by exact hHeld) (fun K hK => ?_)
        go_simp
        refine hK _ ?_
        clear hK K
        refine take_L (i := 6) rfl (by kernel_rfl) (by kernel_rfl) (by kernel_rfl) (by kernel_rfl) (fun _ _ _ _ h => h) (by exact hHeld) (fun K hK => ?_)
        go_simp
        refine hK _ ?_
        clear hK K
        refine take_L (i := 7) rfl (by kernel_rfl) (by kernel_rfl) (by kernel_rfl) (by kernel_rfl) (fun _ _ _ _ h => h) (by exact hHeld) (fun K hK => ?_)
        go_simp
        refine hK _ ?_
        clear hK K
        refine take_L (i := 8) rfl (by kernel_rfl) (by kernel_rfl) (by kernel_rfl) (by kernel_rfl) (fun _ _ _ _ h => h) (by exact hHeld) (fun K hK => ?_)
        go_simp
        refine hK _ ?_
        clear hK K
        refine take_L (i := 9) rfl (by kernel_rfl) (by kernel_rfl) (by kernel_rfl) (by kernel_rfl) (fun _ _ _ _ h => h) (by exact hHeld) (fun K hK => ?_)
        go_simp
        refine hK _ ?_
        clear hK K
        clear hne k0 wk c1 c2 c3 c4
        have Hrow := (HR.out.on HI.out.bel).row j jb
        have hcs : ∀ t, t < 16 → va.cell? ⟨ga j, ka + t, none⟩ = some (.int .u8 (((List.range 16).map (fun t => (css.getD j []).getD (ka + t) 0)).getD t 0)) := fun t ht => by
          have h1 : Pre va (ga j) 5 (css.getD j []) := (HR.out.row j jb).below HI.out.bel (HR.out.row j jb).lt
          rw [h1.cell (k := ka + t) (by rw [HR.out.len j jb]; omega)]
          simp [List.getD_eq_getElem?_getD, ht]
        refine one_W (i := 10) (by kernel_rfl) rfl (fun K hK => ?_)
        refine wpList_append_bs rfl _ _ rfl w.heap.size av (16 * m) cv (nb css m) (nb_len css m) rfl HI.out.own (ga j) ka (gc j - ka) ((List.range 16).map (fun t => (css.getD j []).getD (ka + t) 0)) (by simp) rfl hcs (by have := Hm.out.2; omega) HI.out.bel.size ?_
        intro a9 c9 w9 HO3 hg3
        have hnx := HI.out.next (a' := a9) (c' := c9) (by rw [Hn.out]; exact HO3.out) hg3
        have hH9 : (fun w' : World => w'.cell? ⟨w.heap.size, 3, none⟩ = some (.slice av (16 * m) cv)) w9 := hnx.1.c3
        have f9 : w9.frozen? ⟨w.heap.size, 3, none⟩ = false := frozen_of_row w9 w.heap.size 3 _ 41 hnx.1
        refine hK.out _ _ (fun _ => hH9) ?_
        clear hK K
        have HE : Hid (Nx w css ((y * 48 + z) * 3 + (x + 1)) (w9.setCell ⟨w.heap.size, 3, none⟩ (.slice a9 (16 * m + 16) c9))) := by
          have := Hm.out.1
          rw [show (y * 48 + z) * 3 + (x + 1) = m + 1 by omega]
          exact ⟨_, _, hnx.2⟩
        clear hnx HO3 hg3 HI Hn hcs Hrow
        have hne : Nonempty (Sub (fun w' : World => w'.cell? ⟨w.heap.size, 3, none⟩ = some (.slice av (16 * m) cv))) := ⟨⟨_, hH9⟩⟩
        refine one_L (i := 11) (by kernel_rfl) rfl (fun K hK => ?_)
        go_simp
        refine hK.out _ _ (fun _ => hH9) ?_
        clear hK K
        refine take_L (i := 12) rfl (by kernel_rfl) (by kernel_rfl) (by kernel_rfl) (by kernel_rfl) (fun _ _ _ _ h => h) (by exact hH9) (fun K hK => ?_)
        go_simp
        refine hK _ ?_
        clear hK K hne
        have hH9' : w9.cell? ⟨w.heap.size, 3, none⟩ = some (.slice av (16 * m) cv) := hH9
        refine one_L (i := 13) (by kernel_rfl) rfl (fun K hK => ?_)
        go_simp
        refine hK.out _ _ (fun h => absurd rfl h) ?_
        clear hK K hH9 hH9'
        refine done_L (by kernel_rfl) ?_ _
        go_wp2
        exact ⟨⟨x + 1, by omega, by simp, HE⟩, by simp [intOf]; omega⟩
end Go.Proofs.YtjeapaojbkicmaaDoor
