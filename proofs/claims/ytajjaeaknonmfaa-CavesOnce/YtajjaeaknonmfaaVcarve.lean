/-
  The document's Carve.
-/
import Derived.Test.YtajjaeaknonmfaaVrnd
set_option maxRecDepth 20000
namespace Go.Proofs.Ytajjaeaknonmfaa
open C Go.RowKit

/-- A copy of bytes by an append to none. -/
theorem wpList_append_copy {w : World} {ops : Array Oper} {rest : List Oper} {o : Oper} {a : Act} {Q : Exit → Act → World → Prop} (hgd : o.guard = none) (s x : Operand)
    (ho : o.op = .call { callee := .builtin .append, args := #[s, x], argTypes := #[38, 38] }) (g c : Nat) (cs : List Int) (hl : cs.length = 32768) (hP : Pre w g 5 cs) (hs : a.eval s = .slice none 0 0) (hx : a.eval x = .slice (some ⟨g, 0, none⟩) 32768 c)
    (h : ∀ g' c' w', Pre w' g' 5 cs → Below w.heap.size w w' → w.heap.size ≤ g' → wpList Try.prog ops Q rest (a.put o.dst (.slice (some ⟨g', 0, none⟩) 32768 c')) w') : wpList Try.prog ops Q (o :: rest) a w := by
  obtain ⟨i, hi, hz0, hz1, hz2⟩ := info_parts C.info5
  refine wpList_append_own_at w hgd s x 38 ho w.heap.size 5 i _ 1 1 Try.underlying38 hi hz0 hz1 hz2 rfl (by decide) (.slice none 0 0) 0 [] hs (World.ownsRow_nil _ _ _ _) ⟨g, 0, none⟩ 32768 c (cs.map (Value.int .u8)) hx (by simp [hl]) (fun j u hj => ?_) (by simp [Value.oneCell']) (by simp [maxLen]) (by omega) (Nat.le_refl _) ?_
  · rw [List.getElem?_map] at hj
    obtain ⟨v, hv, rfl⟩ := Option.map_eq_some_iff.1 hj
    have hjl := (List.getElem?_eq_some_iff.1 hv).1
    rw [show (Addr.add ⟨g, 0, none⟩ j) = ⟨g, j, none⟩ by rw [Addr.add_mid, Nat.zero_add]]
    rw [hP.cell hjl, List.getD_eq_getElem?_getD, hv]
    rfl
  · intro v' w' h1 h2 _ h4
    rcases h1.2 with ⟨hv, hn⟩ | ⟨g', cap, cur, hv, hlo, hh, hk, _, hsz, ht⟩
    · omega
    · subst hv
      refine h g' cap w' ⟨cur, hh, ?_, fun k hk' => ?_⟩ ⟨h2.os, h2.tape, h2.output, h2.size, fun k hk => h2.block k hk (by simp [Value.ownBlock])⟩ hlo
      · rw [hl]; omega
      · have := congrArg (fun l => l[k]?) ht
        simp only [List.nil_append, List.getElem?_map, List.getElem?_take] at this
        rw [if_pos (by omega)] at this
        rw [← Array.getElem?_toList, this, List.getD_eq_getElem?_getD, List.getElem?_eq_getElem hk']
        rfl
/-! ### plain -/
theorem open0_y {S : Nat} {cx cz : Int} {css : List (List Int)} {x y z : Int} (h : y < 6 ∨ 29 < y) : open0 S cx cz css x y z = false := by
  have : fitN css x y z = false := by unfold fitN; rw [decide_eq_false (by omega)]; rfl
  unfold open0
  rw [this]
  rfl
theorem op_start (S : Nat) (cx cz : Int) (css : List (List Int)) : Told (open0 S cx cz css) (plN (-2) 6 (-2)) (List.replicate 11200 false) :=
  Told.init fun p _ hp => open0_y (.inl (by unfold plN at hp; omega))
theorem op_nextz {S : Nat} {cx cz : Int} {css : List (List Int)} {y z : Int} {zs : List Bool} (h : Told (open0 S cx cz css) (plN 18 y z) zs) : Told (open0 S cx cz css) (plN (-2) y (z + 1)) zs :=
  h.jump (by unfold plN; omega) (fun p _ h3 h4 => absurd h4 (by unfold plN at h3 ⊢; omega))
theorem op_nexty {S : Nat} {cx cz : Int} {css : List (List Int)} {y : Int} {zs : List Bool} (h : Told (open0 S cx cz css) (plN (-2) y 18) zs) : Told (open0 S cx cz css) (plN (-2) (y + 1) (-2)) zs :=
  h.jump (by unfold plN; omega) (fun p _ h3 h4 => absurd h4 (by unfold plN at h3 ⊢; omega))
theorem op_done {S : Nat} {cx cz : Int} {css : List (List Int)} {zs : List Bool} (h : Told (open0 S cx cz css) (plN (-2) 30 (-2)) zs) : zs = arrF (open0 S cx cz css) :=
  h.done fun p _ hp => open0_y (.inr (by unfold plN at hp; omega))
/-- What the two rounds tell of the chunk's own cells. -/
def lastF (S : Nat) (cx cz : Int) (css : List (List Int)) : Fld := nearF ((0 : Nat) : Int) (stepF (fitN css) (nearF ((1 : Nat) : Int) (stepF (fitN css) (open0 S cx cz css))))
theorem lastF_is {S : Nat} {cx cz : Int} {css : List (List Int)} {x y z : Int} (hx : 0 ≤ x ∧ x ≤ 15) (hz : 0 ≤ z ∧ z ≤ 15) : lastF S cx cz css x y z = open2 S cx cz css x y z := by
  unfold lastF
  rw [nearF_in (by omega)]
  exact step_congr rfl (fun a b c a1 a2 b1 b2 c1 c2 => nearF_in (by omega))
/-- A cell, as the document's Carve makes it. -/
theorem carv_shut {S : Nat} {cx cz : Int} {css : List (List Int)} {i : Nat} (h : (i : Int) / 256 < 6 ∨ 29 < (i : Int) / 256 ∨ open2 S cx cz css ((i : Int) % 16) ((i : Int) / 256) ((i : Int) / 16 % 16) = false) : carvAt S cx cz css i = (css.getD 4 []).getD i 0 := by
  unfold carvAt
  have : open2 S cx cz css ((i : Int) % 16) ((i : Int) / 256) ((i : Int) / 16 % 16) = false := by
    rcases h with h | h | h
    · cases e : open2 S cx cz css ((i : Int) % 16) ((i : Int) / 256) ((i : Int) / 16 % 16) with
      | false => rfl
      | true => have := fit_y (open2_fit e); omega
    · cases e : open2 S cx cz css ((i : Int) % 16) ((i : Int) / 256) ((i : Int) / 16 % 16) with
      | false => rfl
      | true => have := fit_y (open2_fit e); omega
    · exact h
  rw [this]
  rfl
theorem carv_open {S : Nat} {cx cz : Int} {css : List (List Int)} {i : Nat} (h : open2 S cx cz css ((i : Int) % 16) ((i : Int) / 256) ((i : Int) / 16 % 16) = true) : carvAt S cx cz css i = if (i : Int) / 256 ≤ 10 then 5 else 0 := by
  unfold carvAt
  rw [if_pos h]

set_option maxRecDepth 100000 in
set_option maxHeartbeats 4000000 in
theorem rcarve_c (S : Nat) (cx cz : Int) (b cp : Nat) (g c : Nat → Nat) (css : List (List Int)) (w : World) (hS : S < 18446744073709551616) (hcx : Far 1073741824 cx) (hcz : Far 1073741824 cz) (hN : B9 w b g c css) :
    Calls Try.prog 14 #[.int .u64 S, .agg #[.int .i64 cx, .int .i64 cz], .slice (some ⟨b, 0, none⟩) 9 cp] w fun e w' => Below w.heap.size w w' ∧ ∃ g' c', e = .returned (.tuple #[.slice (some ⟨g', 0, none⟩) 32768 c', .int .i64 0]) ∧ Pre w' g' 5 (carveN S cx cz css) := by
  obtain ⟨Post, hPost⟩ : ∃ Post : Ending → World → Prop, Post = fun e w' => Below w.heap.size w w' ∧ ∃ g' c', e = .returned (.tuple #[.slice (some ⟨g', 0, none⟩) 32768 c', .int .i64 0]) ∧ Pre w' g' 5 (carveN S cx cz css) := ⟨_, rfl⟩
  rw [← hPost]
  have HP : Hid (∀ g' c' w', Below w.heap.size w w' → Pre w' g' 5 (carveN S cx cz css) → Post (.returned (.tuple #[.slice (some ⟨g', 0, none⟩) 32768 c', .int .i64 0])) w') := fun g' c' w' h1 h2 => by rw [hPost]; exact ⟨h1, g', c', rfl, h2⟩
  clear hPost
  obtain ⟨cx0, cx1⟩ := hcx
  obtain ⟨cz0, cz1⟩ := hcz
  have Hb0 : Hid (Below w.heap.size w (w.alloc (.cells #[.int .i64 cx, .int .i64 cz] 28))) := (Below.refl _ _).alloc (Nat.le_refl _) _
  have HX0 : Hid ((w.alloc (.cells #[.int .i64 cx, .int .i64 cz] 28)).heap[w.heap.size]? = some (.cells #[.int .i64 cx, .int .i64 cz] 28 (0, 0))) := heap_alloc_new w (.cells #[.int .i64 cx, .int .i64 cz] 28)
  have Hsz : Hid ((w.alloc (.cells #[.int .i64 cx, .int .i64 cz] 28)).heap.size = w.heap.size + 1) := by show _ = _; simp
  have HN : Hid (B9 (w.alloc (.cells #[.int .i64 cx, .int .i64 cz] 28)) b g c css) := hN.on Hb0.out
  clear hN
  have hmk := make_bools
  have HT0 : Hid (Told (open0 S cx cz css) (plN (-2) 6 (-2)) (List.replicate 11200 false)) := op_start S cx cz css
  obtain ⟨Z, hZe⟩ : ∃ Z, Z = List.replicate 11200 false := ⟨_, rfl⟩
  rw [← hZe] at hmk HT0
  clear hZe
  go_enter Try.func14, Try.ntmps14
  go_wp2
  generalize w.alloc (.cells #[.int .i64 cx, .int .i64 cz] 28) = w0 at *
  go_loop [8] (fun v => ∃ i : Nat, v = .int .i64 (i : Int) ∧ i ≤ 9) (fun v => 9 - (intOf v).toNat)
  case atStart => exact ⟨0, rfl, by omega⟩
  case round =>
    obtain ⟨i, rfl, hi⟩ := hrel
    by_cases hlt : i < 9
    · have hlt' : (i : Int) < 9 := by omega
      have c0 := HN.out.row i hlt
      generalize g i = gi at c0
      generalize c i = ci at c0
      go_wp2
      exact ⟨⟨i + 1, by simp, by omega⟩, by simp [intOf]; omega⟩
    have hge : ¬ (i : Int) < 9 := by omega
    obtain rfl : i = 9 := by omega
    have HZ : Hid (BBlk (w0.alloc (.cells (Z.map Value.bool).toArray 4)) w0.heap.size Z ∧ Below w0.heap.size w0 (w0.alloc (.cells (Z.map Value.bool).toArray 4))) := ⟨heap_alloc_new w0 _, (Below.refl _ w0).alloc (Nat.le_refl _) _⟩
    go_wp2
    go_loopw [10] (fun v wr => ∃ y : Int, v = .int .i64 y ∧ 6 ≤ y ∧ y ≤ 30 ∧ Hid (∃ zs, BBlk wr w0.heap.size zs ∧ Told (open0 S cx cz css) (plN (-2) y (-2)) zs ∧ Below w0.heap.size w0 wr)) (fun v _ => (30 - intOf v).toNat)
    case atStart => exact ⟨6, rfl, by omega, by omega, Z, HZ.out.1, HT0.out, HZ.out.2⟩
    case round =>
      clear HZ HT0 hmk
      obtain ⟨y, rfl, hy0, hy1, HY⟩ := hrel
      by_cases hy : y ≤ 29
      case pos =>
        go_wp2
        go_loopw [11] (fun v wr => ∃ z : Int, v = .int .i64 z ∧ -2 ≤ z ∧ z ≤ 18 ∧ Hid (∃ zs, BBlk wr w0.heap.size zs ∧ Told (open0 S cx cz css) (plN (-2) y z) zs ∧ Below w0.heap.size w0 wr)) (fun v _ => (18 - intOf v).toNat)
        case atStart => exact ⟨-2, rfl, by omega, by omega, HY⟩
        case round =>
          clear HY
          obtain ⟨z, rfl, hz0, hz1, HY⟩ := hrel
          by_cases hz : z < 18
          case neg =>
            have HY2 : Hid (∃ zs, BBlk wr w0.heap.size zs ∧ Told (open0 S cx cz css) (plN (-2) (y + 1) (-2)) zs ∧ Below w0.heap.size w0 wr) := by
              obtain ⟨zs, h1, h2, h3⟩ := HY.out
              obtain rfl : z = 18 := by omega
              exact ⟨zs, h1, op_nexty h2, h3⟩
            clear HY
            go_wp2
            exact ⟨⟨y + 1, rfl, by omega, by omega, HY2⟩, by simp [intOf]; omega⟩
          go_wp2
          go_loopw [12] (fun v wr => ∃ x : Int, v = .int .i64 x ∧ -2 ≤ x ∧ x ≤ 18 ∧ Hid (∃ zs, BBlk wr w0.heap.size zs ∧ Told (open0 S cx cz css) (plN x y z) zs ∧ Below w0.heap.size w0 wr)) (fun v _ => (18 - intOf v).toNat)
          case atStart => exact ⟨-2, rfl, by omega, by omega, HY⟩
          case round =>
            clear HY
            obtain ⟨x, rfl, hx0, hx1, HY⟩ := hrel
            by_cases hx : x < 18
            case neg =>
              have HY2 : Hid (∃ zs, BBlk wr w0.heap.size zs ∧ Told (open0 S cx cz css) (plN (-2) y (z + 1)) zs ∧ Below w0.heap.size w0 wr) := by
                obtain ⟨zs, h1, h2, h3⟩ := HY.out
                obtain rfl : x = 18 := by omega
                exact ⟨zs, h1, op_nextz h2, h3⟩
              clear HY
              go_wp2
              exact ⟨⟨z + 1, rfl, by omega, by omega, HY2⟩, by simp [intOf]; omega⟩
            obtain ⟨zs, h1, h2, h3⟩ := HY.out
            have hfit := rfit_c b cp g c css x y z wr (HN.out.on h3) (by omega) (by omega)
            obtain ⟨P, hP, hPl, _⟩ := pl_nat x y z (by omega) (by omega) (by omega)
            have hpl := fun w => rplace_c x y z w (by omega) (by omega) (by omega)
            have hsd := fun w => rseed_c S (cx * 16 + x) y (cz * 16 + z) w hS
            have hPi : (P : Int) < 11200 := by omega
            have HG : Hid (open0 S cx cz css x y z = (fitN css x y z && sdN S (cx * 16 + x) y (cz * 16 + z))) := rfl
            have H1 : Hid (BBlk wr w0.heap.size zs) := h1
            have H2 : Hid (Told (open0 S cx cz css) (plN x y z) zs) := h2
            have H3 : Hid (Below w0.heap.size w0 wr) := h3
            have hX := (h3.block w.heap.size (by have := Hsz.out; omega)).trans HX0.out
            have k0 : wr.cell? ⟨w.heap.size, 0, none⟩ = some (.int .i64 cx) := (cell_of_row wr _ 0 _ 28 (0, 0) hX).trans rfl
            have k1 : wr.cell? ⟨w.heap.size, 1, none⟩ = some (.int .i64 cz) := (cell_of_row wr _ 1 _ 28 (0, 0) hX).trans rfl
            clear h1 h2 h3 HY hX
            generalize fitN css x y z = ft at hfit HG
            generalize sdN S (cx * 16 + x) y (cz * 16 + z) = sd at hsd HG
            have HP1 : Hid (plN x y z = (P : Int)) := hP
            rw [hP] at hpl
            clear hP
            go_wp2_with fail
            refine hfit.mono ?_
            clear hfit
            rintro _ w' ⟨rfl, hw⟩
            replace hw := hw.symm
            subst hw
            go_wp2_with fail
            refine (hpl _).mono ?_
            clear hpl
            rintro _ w' ⟨rfl, hw⟩
            replace hw := hw.symm
            subst hw
            cases ft with
            | false =>
              have hlen := H2.out.1
              have c0 := H1.out.cell (k := P) (by omega)
              have c1 := H1.out.free P
              have HY2 : Hid (∃ zs, BBlk (wr.setCell ⟨w0.heap.size, P, none⟩ (.bool false)) w0.heap.size zs ∧ Told (open0 S cx cz css) (plN (x + 1) y z) zs ∧ Below w0.heap.size w0 (wr.setCell ⟨w0.heap.size, P, none⟩ (.bool false))) := by
                refine ⟨zs.set P false, H1.out.set P _, ?_, H3.out.setCell (p := ⟨w0.heap.size, P, none⟩) (Nat.le_refl _) _⟩
                have e : open0 S cx cz css x y z = false := HG.out
                rw [← e]
                exact H2.out.put (by omega) (by omega) (by omega) P HP1.out
              clear H1 H2 H3 HG HP1 hlen hsd
              go_wp2
              exact ⟨⟨x + 1, rfl, by omega, by omega, HY2⟩, by simp [intOf]; omega⟩
            | true =>
              rw [Bool.true_and] at HG
              go_wp2_with fail
              refine (hsd _).mono ?_
              clear hsd
              rintro _ w3 ⟨rfl, hb3⟩
              have H1' : Hid (BBlk w3 w0.heap.size zs) := H1.out.on hb3
              have H3' : Hid (Below w0.heap.size w0 w3) := H3.out.trans (hb3.mono H3.out.size)
              have hlen := H2.out.1
              have c0 := H1'.out.cell (k := P) (by omega)
              have c1 := H1'.out.free P
              have HY2 : Hid (∃ zs, BBlk (w3.setCell ⟨w0.heap.size, P, none⟩ (.bool sd)) w0.heap.size zs ∧ Told (open0 S cx cz css) (plN (x + 1) y z) zs ∧ Below w0.heap.size w0 (w3.setCell ⟨w0.heap.size, P, none⟩ (.bool sd))) := by
                refine ⟨zs.set P sd, H1'.out.set P _, ?_, H3'.out.setCell (p := ⟨w0.heap.size, P, none⟩) (Nat.le_refl _) _⟩
                rw [← HG.out]
                exact H2.out.put (by omega) (by omega) (by omega) P HP1.out
              clear H1 H2 H3 HG HP1 hlen H1' H3' hb3 k0 k1
              go_wp2
              exact ⟨⟨x + 1, rfl, by omega, by omega, HY2⟩, by simp [intOf]; omega⟩
      obtain rfl : y = 30 := by omega
      have H1 : Hid (BBlk wr w0.heap.size (arrF (open0 S cx cz css)) ∧ Below w0.heap.size w0 wr) := by
        obtain ⟨zs, h1, h2, h3⟩ := HY.out
        rw [op_done h2] at h1
        exact ⟨h1, h3⟩
      clear HY
      go_wp2_with fail
      refine (rround_c b cp w0.heap.size 11200 g c css (open0 S cx cz css) 1 (by omega) wr (HN.out.on H1.out.2) H1.out.1).mono ?_
      rintro _ w1 ⟨rfl, hB1, hb1⟩
      have H2 : Hid (Below w0.heap.size w0 w1) := H1.out.2.trans (hb1.mono H1.out.2.size)
      clear H1 hb1
      go_wp2_with fail
      refine (rround_c b cp wr.heap.size 11200 g c css _ 0 (by omega) w1 (HN.out.on H2.out) hB1).mono ?_
      rintro _ w2 ⟨rfl, hB2, hb2⟩
      have H3 : Hid (Below w0.heap.size w0 w2) := H2.out.trans (hb2.mono H2.out.size)
      have HB2 : Hid (BBlk w2 w1.heap.size (arrF (lastF S cx cz css))) := hB2
      clear hB1 hB2 H2 hb2
      generalize w1.heap.size = lg at *
      have c4 := (HN.out.on H3.out).row 4 (by omega)
      have HP4 : Hid (Pre w2 (g 4) 5 (css.getD 4 []) ∧ (css.getD 4 []).length = 32768) := ⟨(HN.out.on H3.out).pre 4 (by omega), HN.out.len 4 (by omega)⟩
      generalize g 4 = g4 at *
      generalize c 4 = c4' at *
      go_wp2_with (at_builtin; refine wpList_append_copy rfl _ _ rfl g4 c4' (css.getD 4 []) HP4.out.2 HP4.out.1 rfl rfl ?_; intro og oc w3 hPre hb3 hog)
      have hlg : lg < w2.heap.size := HB2.out.lt
      have HB3 : Hid (BBlk w3 lg (arrF (lastF S cx cz css))) := HB2.out.on hb3
      have H4 : Hid (Below w0.heap.size w0 w3) := H3.out.trans (hb3.mono H3.out.size)
      have Hog : Hid (w0.heap.size ≤ og ∧ lg ≠ og) := ⟨Nat.le_trans H3.out.size hog, by omega⟩
      have HPre : Hid (Pre w3 og 5 (css.getD 4 [])) := hPre
      have Hl4 : Hid ((css.getD 4 []).length = 32768) := HP4.out.2
      clear hPre hb3 hog HB2 H3 HP4 c4 hlg
      go_loopw [15] (fun v wr => ∃ i : Nat, v = .int .i64 (i : Int) ∧ i ≤ 32768 ∧ Hid (∃ zs : List Int, Pre wr og 5 zs ∧ zs.length = 32768 ∧ (∀ j, j < i → zs.getD j 0 = carvAt S cx cz css j) ∧ (∀ j, i ≤ j → zs.getD j 0 = (css.getD 4 []).getD j 0) ∧ Below w0.heap.size w0 wr ∧ BBlk wr lg (arrF (lastF S cx cz css)))) (fun v _ => 32768 - (intOf v).toNat)
      case atStart => exact ⟨0, rfl, by omega, css.getD 4 [], HPre.out, Hl4.out, fun j hj => by omega, fun j _ => rfl, H4.out, HB3.out⟩
      case round =>
        clear HPre H4 HB3
        obtain ⟨i, rfl, hi, HI⟩ := hrel
        by_cases hlt : i < 32768
        case neg =>
          have hge : ¬ (i : Int) < 32768 := by omega
          have R : Post (.returned (.tuple #[.slice (some ⟨og, 0, none⟩) 32768 oc, .int .i64 0])) wr := by
            obtain ⟨zs, h1, h2, h3, h4, h5, h6⟩ := HI.out
            have e : zs = carveN S cx cz css := getD_ext (by rw [h2, carveN_len]) (fun j hj => by rw [h2] at hj; rw [carveN_at S cx cz css j hj]; exact h3 j (by omega))
            rw [e] at h1
            exact HP.out og oc wr (Hb0.out.trans (h5.mono (by have := Hsz.out; omega))) h1
          clear HP HI
          go_wp2
          exact R
        have hlt' : (i : Int) < 32768 := by omega
        have t0 : Int.tdiv (i : Int) 256 = ((i / 256 : Nat) : Int) := by rw [Int.tdiv_eq_ediv_of_nonneg (by omega)]; omega
        have t1 : Int.tmod (i : Int) 16 = ((i % 16 : Nat) : Int) := by rw [Int.tmod_eq_emod_of_nonneg (by omega)]; omega
        have t2 : Int.tdiv (i : Int) 16 = ((i / 16 : Nat) : Int) := by rw [Int.tdiv_eq_ediv_of_nonneg (by omega)]; omega
        have t3 : Int.tmod ((i / 16 : Nat) : Int) 16 = ((i / 16 % 16 : Nat) : Int) := by rw [Int.tmod_eq_emod_of_nonneg (by omega)]; omega
        have r0 : i / 256 < 128 := by omega
        have r1 : i % 16 < 16 := by omega
        have r2 : i / 16 < 2048 := by omega
        have r3 : i / 16 % 16 < 16 := by omega
        have e0 : (i : Int) / 256 = ((i / 256 : Nat) : Int) := by omega
        have e1 : (i : Int) % 16 = ((i % 16 : Nat) : Int) := by omega
        have e3 : (i : Int) / 16 % 16 = ((i / 16 % 16 : Nat) : Int) := by omega
        have Hshut : Hid (((i / 256 : Nat) : Int) < 6 ∨ 29 < ((i / 256 : Nat) : Int) ∨ open2 S cx cz css ((i % 16 : Nat) : Int) ((i / 256 : Nat) : Int) ((i / 16 % 16 : Nat) : Int) = false → ∃ zs : List Int, Pre wr og 5 zs ∧ zs.length = 32768 ∧ (∀ j, j < i + 1 → zs.getD j 0 = carvAt S cx cz css j) ∧ (∀ j, i + 1 ≤ j → zs.getD j 0 = (css.getD 4 []).getD j 0) ∧ Below w0.heap.size w0 wr ∧ BBlk wr lg (arrF (lastF S cx cz css))) := fun h => by
          obtain ⟨zs, h1, h2, h3, h4, h5, h6⟩ := HI.out
          refine ⟨zs, h1, h2, fun j hj => ?_, fun j hj => h4 j (by omega), h5, h6⟩
          by_cases e : j = i
          · subst e
            rw [h4 j (Nat.le_refl _)]
            exact (carv_shut (by rw [e0, e1, e3]; exact h)).symm
          · exact h3 j (by omega)
        by_cases y0 : ((i / 256 : Nat) : Int) < 6
        · have HI2 := Hshut.out (.inl y0)
          have HI3 : Hid (∃ zs : List Int, Pre wr og 5 zs ∧ zs.length = 32768 ∧ (∀ j, j < i + 1 → zs.getD j 0 = carvAt S cx cz css j) ∧ (∀ j, i + 1 ≤ j → zs.getD j 0 = (css.getD 4 []).getD j 0) ∧ Below w0.heap.size w0 wr ∧ BBlk wr lg (arrF (lastF S cx cz css))) := HI2
          clear HI2 Hshut HI e0 e1 e3 t1 t2 t3 r1 r2 r3
          generalize i / 256 = Y at *
          go_wp2
          exact ⟨⟨i + 1, by simp, by omega, HI3⟩, by simp [intOf]; omega⟩
        by_cases y1 : 29 < ((i / 256 : Nat) : Int)
        · have HI2 := Hshut.out (.inr (.inl y1))
          have HI3 : Hid (∃ zs : List Int, Pre wr og 5 zs ∧ zs.length = 32768 ∧ (∀ j, j < i + 1 → zs.getD j 0 = carvAt S cx cz css j) ∧ (∀ j, i + 1 ≤ j → zs.getD j 0 = (css.getD 4 []).getD j 0) ∧ Below w0.heap.size w0 wr ∧ BBlk wr lg (arrF (lastF S cx cz css))) := HI2
          clear HI2 Hshut HI e0 e1 e3 t1 t2 t3 r1 r2 r3
          generalize i / 256 = Y at *
          go_wp2
          exact ⟨⟨i + 1, by simp, by omega, HI3⟩, by simp [intOf]; omega⟩
        obtain ⟨P, hP, hPl, hf⟩ := arrF_pl (lastF S cx cz css) ((i % 16 : Nat) : Int) ((i / 256 : Nat) : Int) ((i / 16 % 16 : Nat) : Int) (by omega) (by omega) (by omega)
        rw [lastF_is (by omega) (by omega)] at hf
        have hpl := rplace_c ((i % 16 : Nat) : Int) ((i / 256 : Nat) : Int) ((i / 16 % 16 : Nat) : Int) wr (by omega) (by omega) (by omega)
        rw [hP] at hpl
        have hPi : (P : Int) < 11200 := by omega
        have cB : wr.cell? ⟨lg, P, none⟩ = some (.bool ((arrF (lastF S cx cz css)).getD P false)) := by
          obtain ⟨zs, h1, h2, h3, h4, h5, h6⟩ := HI.out
          exact h6.cell (by rw [arrF_len]; exact hPl)
        rw [hf] at cB
        clear hf hP
        have Hopen : Hid (open2 S cx cz css ((i % 16 : Nat) : Int) ((i / 256 : Nat) : Int) ((i / 16 % 16 : Nat) : Int) = true → carvAt S cx cz css i = if ((i / 256 : Nat) : Int) ≤ 10 then 5 else 0) := fun h => by
          have := carv_open (S := S) (cx := cx) (cz := cz) (css := css) (i := i) (by rw [e0, e1, e3]; exact h)
          rw [e0] at this
          exact this
        generalize open2 S cx cz css ((i % 16 : Nat) : Int) ((i / 256 : Nat) : Int) ((i / 16 % 16 : Nat) : Int) = ob at *
        clear e0 e1 e3
        generalize i / 16 % 16 = ZR at *
        generalize i / 16 = Q16 at *
        generalize i % 16 = XR at *
        generalize i / 256 = Y at *
        go_wp2_with fail
        refine hpl.mono ?_
        clear hpl
        rintro _ w' ⟨rfl, hw⟩
        replace hw := hw.symm
        subst hw
        cases ob with
        | false =>
          have HI3 : Hid (∃ zs : List Int, Pre wr og 5 zs ∧ zs.length = 32768 ∧ (∀ j, j < i + 1 → zs.getD j 0 = carvAt S cx cz css j) ∧ (∀ j, i + 1 ≤ j → zs.getD j 0 = (css.getD 4 []).getD j 0) ∧ Below w0.heap.size w0 wr ∧ BBlk wr lg (arrF (lastF S cx cz css))) := Hshut.out (.inr (.inr rfl))
          clear Hshut HI Hopen
          go_wp2
          exact ⟨⟨i + 1, by simp, by omega, HI3⟩, by simp [intOf]; omega⟩
        | true =>
          have ho := Hopen.out rfl
          obtain ⟨zs, h1, h2, h3, h4, h5, h6⟩ := HI.out
          have q1 := h1.cell (k := i) (by omega)
          have q2 := h1.free i
          have h1' := h1.set i 0
          have q3 := h1'.cell (k := i) (by rw [List.length_set]; omega)
          have q4 := h1'.free i
          have HB' : Hid (∀ v, BBlk (wr.setCell ⟨og, i, none⟩ v) lg (arrF (lastF S cx cz css))) := fun v => (Below.heap_setCell wr ⟨og, i, none⟩ v lg Hog.out.2).trans h6
          have HBb : Hid (∀ v, BBlk ((wr.setCell ⟨og, i, none⟩ (.int .u8 0)).setCell ⟨og, i, none⟩ v) lg (arrF (lastF S cx cz css))) := fun v => (Below.heap_setCell _ ⟨og, i, none⟩ v lg Hog.out.2).trans (HB'.out _)
          have hset : ∀ u : Int, u = carvAt S cx cz css i → ∀ xs : List Int, xs.length = 32768 → (∀ j, j ≠ i → xs.getD j 0 = zs.getD j 0) → xs.getD i 0 = u → (∀ j, j < i + 1 → xs.getD j 0 = carvAt S cx cz css j) ∧ (∀ j, i + 1 ≤ j → xs.getD j 0 = (css.getD 4 []).getD j 0) := fun u hu xs _ hne heq => by
            refine ⟨fun j hj => ?_, fun j hj => ?_⟩
            · by_cases e : j = i
              · subst e; rw [heq, hu]
              · rw [hne j e]; exact h3 j (by omega)
            · rw [hne j (by omega)]; exact h4 j (by omega)
          by_cases h10 : (Y : Int) ≤ 10
          · rw [if_pos h10] at ho
            have HI3 : Hid (∃ zs : List Int, Pre ((wr.setCell ⟨og, i, none⟩ (.int .u8 0)).setCell ⟨og, i, none⟩ (.int .u8 5)) og 5 zs ∧ zs.length = 32768 ∧ (∀ j, j < i + 1 → zs.getD j 0 = carvAt S cx cz css j) ∧ (∀ j, i + 1 ≤ j → zs.getD j 0 = (css.getD 4 []).getD j 0) ∧ Below w0.heap.size w0 ((wr.setCell ⟨og, i, none⟩ (.int .u8 0)).setCell ⟨og, i, none⟩ (.int .u8 5)) ∧ BBlk ((wr.setCell ⟨og, i, none⟩ (.int .u8 0)).setCell ⟨og, i, none⟩ (.int .u8 5)) lg (arrF (lastF S cx cz css))) := by
              have hl2 : ((zs.set i 0).set i 5).length = 32768 := by rw [List.length_set, List.length_set]; exact h2
              obtain ⟨p1, p2⟩ := hset 5 ho.symm ((zs.set i 0).set i 5) hl2 (fun j hj => by rw [C.getD_set_ne _ _ (Ne.symm hj), C.getD_set_ne _ _ (Ne.symm hj)]) (C.getD_set_self _ i 5 (by rw [List.length_set]; omega))
              exact ⟨_, h1'.set i 5, hl2, p1, p2, (h5.setCell (p := ⟨og, i, none⟩) Hog.out.1 _).setCell (p := ⟨og, i, none⟩) Hog.out.1 _, HBb.out _⟩
            clear Hshut HI Hopen h1 h2 h3 h4 h5 h6 h1' HB' HBb hset ho
            generalize (zs.set i 0).getD i 0 = o1 at *
            generalize zs.getD i 0 = o2 at *
            go_wp2
            exact ⟨⟨i + 1, by simp, by omega, HI3⟩, by simp [intOf]; omega⟩
          · rw [if_neg h10] at ho
            have HI3 : Hid (∃ zs : List Int, Pre (wr.setCell ⟨og, i, none⟩ (.int .u8 0)) og 5 zs ∧ zs.length = 32768 ∧ (∀ j, j < i + 1 → zs.getD j 0 = carvAt S cx cz css j) ∧ (∀ j, i + 1 ≤ j → zs.getD j 0 = (css.getD 4 []).getD j 0) ∧ Below w0.heap.size w0 (wr.setCell ⟨og, i, none⟩ (.int .u8 0)) ∧ BBlk (wr.setCell ⟨og, i, none⟩ (.int .u8 0)) lg (arrF (lastF S cx cz css))) := by
              have hl2 : (zs.set i 0).length = 32768 := by rw [List.length_set]; exact h2
              obtain ⟨p1, p2⟩ := hset 0 ho.symm (zs.set i 0) hl2 (fun j hj => by rw [C.getD_set_ne _ _ (Ne.symm hj)]) (C.getD_set_self _ i 0 (by omega))
              exact ⟨_, h1', hl2, p1, p2, h5.setCell (p := ⟨og, i, none⟩) Hog.out.1 _, HB'.out _⟩
            clear Hshut HI Hopen h1 h2 h3 h4 h5 h6 h1' HB' HBb hset ho q3 q4
            generalize zs.getD i 0 = o2 at *
            have h10' : decide ((Y : Int) ≤ 10) = false := decide_eq_false h10
            clear h10 y0 y1 Hl4 Hog r0 r1 r2 r3 t0 t1 t2 t3
            go_wp2
            exact ⟨⟨i + 1, by simp, by omega, HI3⟩, by simp [intOf]; omega⟩
end Go.Proofs.Ytajjaeaknonmfaa