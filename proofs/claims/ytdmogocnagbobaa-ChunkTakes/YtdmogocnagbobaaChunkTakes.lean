/-
  ChunkTakesSaid is proved: for every slice of bytes, every integer and every byte the statement ChunkTakes returns true, without any condition.
-/
import Derived.Test.YtdmogocnagbobaaPres
import Derived.Deep.DeepCutAuto
namespace Go.Proofs.Ytdmogocnagbobaa
open Go.ChangeShapes Go.WideShapes Go.ChangeAt Go.RowKit

theorem open_src0 {H : Type} {enc : TypeId × Value → H} {w : World} {base : Nat} {spare : Nat → Bool} {held : Bool} {a : Option Addr} {len cap : Nat} {d : DataW H} {p : List MemPlace} (h : DataW.Trod enc Try.prog w base spare held 25 (.slice a len cap) d p) : ∃ bs : List Int, Src w a len bs ∧ (a = none → len = 0 ∧ cap = 0) := by
  obtain ⟨bs, hS⟩ := open_src h
  refine ⟨bs, hS, fun ha => ?_⟩
  obtain ⟨fuel, hf⟩ := h
  rcases Go.Deep.open_slice1 Try.underlying25 (by kernel_rfl) hf with ⟨hcs, _⟩ | ⟨x, len', cap', m, n, V, D, Pl, hcs, _⟩
  · simp [Value.cells] at hcs
    exact ⟨hcs.2.1, hcs.2.2⟩
  · simp [Value.cells] at hcs
    rw [ha] at hcs
    exact absurd hcs.1 (by simp)
/-- Bytes that a call has gathered. -/
theorem own_src {w : World} {base n : Nat} {v : Value} {bs : List Int} (hl : bs.length = n) (hu : ∀ k, 0 ≤ bs.getD k 0 ∧ bs.getD k 0 ≤ 255) (h : w.ownsRow base 5 1 v n (bs.map (Value.int .u8))) :
    ∃ a c, v = .slice a n c ∧ Src w a n bs ∧ (0 < n → ∃ o, a = some ⟨o, 0, none⟩ ∧ base ≤ o ∧ Pre w o 5 bs) := by
  obtain ⟨_, ⟨rfl, rfl⟩ | ⟨g, cap, cur, rfl, hb, hg, hc, _, hs, ht⟩⟩ := h
  · exact ⟨none, 0, rfl, ⟨hl, fun k hk => by omega, hu⟩, fun h => by omega⟩
  · have hP : Pre w g 5 bs := by
      refine ⟨cur, hg, by omega, fun k hk => ?_⟩
      have h1 : (cur.toList.take (n * 1))[k]? = (bs.map (Value.int .u8))[k]? := by rw [ht]
      rw [List.getElem?_take, if_pos (by omega), List.getElem?_map, List.getElem?_eq_getElem hk] at h1
      rw [← Array.getElem?_toList, h1, List.getD_eq_getElem?_getD, List.getElem?_eq_getElem hk]
      rfl
    refine ⟨_, cap, rfl, ⟨hl, fun k hk => ⟨g, 0, rfl, hP.lt, ?_⟩, hu⟩, fun _ => ⟨g, rfl, hb, hP⟩⟩
    rw [Nat.zero_add]
    exact hP.cell (by omega)
theorem Src.news {w : World} {ad : Addr} {n : Nat} {bs : List Int} (h : Src w (some ad) n bs) : ∀ j u, (bs.map (Value.int .u8))[j]? = some u → w.cell? (ad.add j) = some u := by
  intro j u hu
  have hj : j < bs.length := by simpa using (List.getElem?_eq_some_iff.1 hu).1
  obtain ⟨b, o, e, _, hc⟩ := h.cells j (by rw [← h.len]; exact hj)
  cases e
  rw [Addr.add_mid, hc, ← hu, List.getElem?_map, List.getElem?_eq_getElem hj, List.getD_eq_getElem?_getD, List.getElem?_eq_getElem hj]
  rfl
theorem mayC_zero {bs : List Int} (h : mayC bs = 0) : bs.length = 32768 := by
  unfold mayC at h
  split at h
  · cases h
  · split at h
    · cases h
    · omega
/-- How long a slice is. -/
def lenV : Value → Nat
  | .slice _ n _ => n
  | _ => 0
/-- So many bytes of one kind behind some. -/
def gath (bs : List Int) (k : Int) (j : Nat) : List Int := bs ++ List.replicate j k
theorem gath_length (bs : List Int) (k : Int) (j : Nat) : (gath bs k j).length = bs.length + j := by unfold gath; rw [List.length_append, List.length_replicate]
theorem gath_succ (bs : List Int) (k : Int) (j : Nat) : gath bs k (j + 1) = gath bs k j ++ [k] := by unfold gath; rw [List.append_assoc, ← List.replicate_succ']
theorem gath_byte {bs : List Int} (h : ∀ i, 0 ≤ bs.getD i 0 ∧ bs.getD i 0 ≤ 255) {k : Int} (h0 : 0 ≤ k) (h1 : k ≤ 255) (j i : Nat) : 0 ≤ (gath bs k j).getD i 0 ∧ (gath bs k j).getD i 0 ≤ 255 := by
  unfold gath
  rw [List.getD_eq_getElem?_getD]
  by_cases hi : i < bs.length
  · rw [List.getElem?_append_left hi, ← List.getD_eq_getElem?_getD]
    exact h i
  · rw [List.getElem?_append_right (by omega), List.getElem?_replicate]
    split
    · exact ⟨h0, h1⟩
    · exact ⟨by decide, by decide⟩

set_option maxRecDepth 100000 in
set_option maxHeartbeats 8000000 in
theorem chunkTakes_in (a : Option Addr) (n cap : Nat) (bs : List Int) (M : Nat) (kk : Int) (w : World) (hS : Src w a n bs) (hM : M ≤ 70000) (hn : n ≤ 40000) (hk0 : 0 ≤ kk) (hk1 : kk ≤ 255) (hnil : a = none → n = 0 ∧ cap = 0) :
    Calls Try.prog 4 #[.slice a n cap, .int .i64 (M : Int), .int .u8 kk] w fun e w' => e = .returned (.bool true) ∧ Below w.heap.size w w' := by
  obtain ⟨i5, hi5, hz0, hz1, hz2⟩ := info_parts info5
  have HZ : Hid (i5.zero = some (.int .u8 0) ∧ i5.size = 1 ∧ i5.bytes = 1) := ⟨hz0, hz1, hz2⟩
  have HI : Hid (Try.prog.info? 5 = some i5) := hi5
  have Hbyte : Hid (∀ j i, 0 ≤ (gath bs kk j).getD i 0 ∧ (gath bs kk j).getD i 0 ≤ 255) := fun j i => gath_byte hS.byte hk0 hk1 j i
  have HS : Hid (Src w a n bs) := hS
  have hlb : bs.length = n := hS.len
  clear hi5 hz0 hz1 hz2 hS
  have n0 : ¬ (M : Int) < 0 := by omega
  have n1 : ¬ (70000 : Int) < M := by omega
  have n2 : ¬ (40000 : Int) < n := by omega
  go_enter Try.func4, Try.ntmps4
  go_wp2_with fail
  refine (awake_c w).mono ?_
  rintro _ w1 ⟨rfl, hb1⟩
  go_upto_region 4 with fail
  go_cut [8] (fun v wc => wc.ownsRow w1.heap.size 5 1 v n ((gath bs kk 0).map (Value.int .u8)) ∧ Below w.heap.size w wc ∧ w1.heap.size ≤ wc.heap.size)
  case first =>
    have HG : Hid ((gath bs kk 0).map (Value.int .u8) = bs.map (Value.int .u8)) := by show _ = _; unfold gath; simp
    cases a with
    | none =>
      obtain ⟨e1, e2⟩ := hnil rfl
      subst e1
      subst e2
      go_wp2_with (at_builtin; refine wpList_append_own_none rfl _ _ 25 rfl w1.heap.size 5 i5 1 Try.underlying25 HI.out (.slice none 0 0) 0 [] rfl (World.ownsRow_nil _ _ _ _) rfl ?_)
      go_meet
      case rel =>
        rw [HG.out, List.eq_nil_of_length_eq_zero hlb]
        exact ⟨World.ownsRow_nil _ _ _ _, hb1, Nat.le_refl _⟩
    | some ad =>
      have HN : Hid (∀ j u, (bs.map (Value.int .u8))[j]? = some u → w1.cell? (ad.add j) = some u) := (HS.out.on hb1 (Nat.le_refl _)).news
      go_wp2_with (at_builtin; refine wpList_append_own _ rfl _ _ 25 rfl w1.heap.size 5 i5 (.int .u8 0) 1 1 Try.underlying25 HI.out HZ.out.1 HZ.out.2.1 HZ.out.2.2 rfl (by decide) (.slice none 0 0) 0 [] rfl (World.ownsRow_nil _ _ _ _) ad n cap (bs.map (Value.int .u8)) rfl (by rw [List.length_map, hlb, Nat.mul_one]) HN.out (by intro v hv; obtain ⟨x, _, rfl⟩ := List.mem_map.1 hv; rfl) (by unfold maxLen; omega) (by omega) (Nat.le_refl _) ?_; intro v' w4 hown' hgrow _)
      go_meet
      case rel =>
        rw [HG.out]
        exact ⟨by simpa using hown', hb1.grown hgrow hb1.size (fun k hk => by cases hk), ((Below.refl w1.heap.size w1).grown hgrow (Nat.le_refl _) (fun k hk => by cases hk)).size⟩
  case rest =>
  obtain ⟨hown, hb, hcs⟩ := hcut
  have hbase : w.heap.size ≤ w1.heap.size := hb1.size
  have hbase2 : w1.heap.size ≤ wc.heap.size := hcs
  clear hb1 HS hnil
  generalize w1.heap.size = base at *
  go_wp2
  go_loopw [8] (fun v wr => ∃ j : Nat, wr.ownsRow base 5 1 v (n + j) ((gath bs kk j).map (Value.int .u8)) ∧ Below w.heap.size w wr ∧ base ≤ wr.heap.size ∧ (j = 0 ∨ n + j ≤ M)) (fun v _ => M - lenV v)
  case atStart => exact ⟨0, hown, hb, hbase2, Or.inl rfl⟩
  case round =>
    obtain ⟨j, hO, hb2, hbs, hj⟩ := hrel
    clear hown hb hbase2
    have hlg : (gath bs kk j).length = n + j := by rw [gath_length, hlb]
    have hby := Hbyte.out j
    obtain ⟨av, cv, rfl, hSv, hPv⟩ := own_src hlg hby hO
    by_cases hlt : n + j < M
    · have hlt' : ((n + j : Nat) : Int) < M := by omega
      have HG : Hid ((gath bs kk (j + 1)).map (Value.int .u8) = (gath bs kk j).map (Value.int .u8) ++ [.int .u8 kk]) := by show _ = _; rw [gath_succ, List.map_append]; rfl
      generalize (gath bs kk j).map (Value.int .u8) = L at *
      clear hSv hPv hlg hby
      go_upto_region 6 with fail
      go_wp2_with (at_builtin; refine wpList_append_own _ rfl _ _ 25 rfl base 5 i5 (.int .u8 0) 1 1 Try.underlying25 HI.out HZ.out.1 HZ.out.2.1 HZ.out.2.2 rfl (by decide) _ _ _ rfl (hO.alloc _) ⟨wr.heap.size, 0, none⟩ 1 1 [.int .u8 kk] rfl rfl (cell_one_new _ _ _) (ints_oneCell .u8 [kk]) (by unfold maxLen; omega) (by omega) (by simp; omega) ?_; intro v' w3 hown' hgrow _)
      have hb3 : Below w.heap.size w w3 := (hb2.alloc hb2.size _).grown hgrow (by simp; have := hb2.size; omega) (fun k hk => Nat.le_trans hbase (hO.lt k hk).1)
      have hbs3 : base ≤ w3.heap.size := Nat.le_trans hbs ((Below.refl w.heap.size wr).alloc hb2.size _ |>.grown hgrow (by simp; have := hb2.size; omega) (fun k hk => Nat.le_trans hbase (hO.lt k hk).1)).size
      have R1 : w3.ownsRow base 5 1 v' (n + (j + 1)) ((gath bs kk (j + 1)).map (Value.int .u8)) := by rw [HG.out]; exact hown'
      obtain ⟨a3, c3, rfl, _, _⟩ := own_src (by rw [gath_length, hlb]) (Hbyte.out (j + 1)) R1
      clear hown' hgrow hO
      go_wp2
      go_roundw
      case rel => exact ⟨j + 1, R1, hb3, hbs3, Or.inr (by omega)⟩
      case measure => simp [lenV]; omega
    · have hlt' : ¬ ((n + j : Nat) : Int) < M := by omega
      have hNN : n + j ≤ 70000 := by omega
      clear hO hj hlt Hbyte
      generalize n + j = N at *
      generalize gath bs kk j = L at *
      go_wp2_with fail
      refine (from_c av N cv L wr hSv (by omega)).mono ?_
      rintro _ w5 ⟨hb5, ⟨hm0, rfl, hB5⟩ | ⟨hm1, rfl⟩⟩
      · have hS5 := hSv.on hb5 (Nat.le_refl _)
        have R5 := hb2.trans (hb5.mono hb2.size)
        have hmay := hS5.may (cap := cv) (by omega)
        rw [hm0] at hmay
        obtain rfl : N = 32768 := by rw [← hlg]; exact mayC_zero hm0
        obtain ⟨o, rfl, hbo, hP⟩ := hPv (by omega)
        have hP5 := hP.below hb5 hP.lt
        have hol := hP.lt
        have hcv := conv_c (cap := cv) hS5
        clear hb5 hSv hPv hP hb2
        generalize wr.heap.size = cb at *
        go_wp2_with fail
        refine hmay.mono ?_
        clear hmay
        rintro _ w6 ⟨rfl, hw⟩
        rw [hw]
        clear hw w6
        go_wp2
        go_loopw [13] (fun i wr => ∃ k : Nat, k ≤ 32768 ∧ i = .int .i64 k ∧ Pre wr o 5 (filTo L 0 3 k) ∧ Blk wr cb 59 L ∧ Below w.heap.size w wr) (fun i _ => 32768 - (intOf i).toNat)
        case atStart => exact ⟨0, Nat.zero_le _, rfl, hP5, hB5, R5⟩
        case round =>
          obtain ⟨k, hk, rfl, hP6, hB6, R6⟩ := hrel
          clear hP5 hB5 R5 hS5 hcv
          by_cases hlt : k < 32768
          · have hc := hP6.cell (k := k) (by rw [filTo_length, hlg]; exact hlt)
            have hf := hP6.free k
            have hlt' : (k : Int) < 32768 := by omega
            generalize (filTo L 0 3 k).getD k 0 = x at hc
            have Q1 : Pre (wr.setCell ⟨o, k, none⟩ (.int .u8 3)) o 5 (filTo L 0 3 (k + 1)) := by show Pre _ _ _ ((filTo L 0 3 k).set (0 + k) 3); rw [Nat.zero_add]; exact hP6.set k 3
            have Q2 : Blk (wr.setCell ⟨o, k, none⟩ (.int .u8 3)) cb 59 L := hB6.other (by omega)
            have Q3 : Below w.heap.size w (wr.setCell ⟨o, k, none⟩ (.int .u8 3)) := R6.setCell (p := ⟨o, k, none⟩) (Nat.le_trans hbase hbo) _
            clear hP6 hB6 R6
            go_wp2
            go_roundw
            case rel => exact ⟨k + 1, by omega, by go_num, Q1, Q2, Q3⟩
            case measure => simp [intOf]; omega
          · obtain rfl : k = 32768 := by omega
            clear hP6
            go_wp2_with fail
            refine (bytes_c cb L _ hB6 hlg).mono ?_
            rintro _ w7 ⟨rfl, hB7, hb7⟩
            have R7 := R6.trans (hb7.mono R6.size)
            have hS7 : Src w7 (some ⟨wr.heap.size, 0, none⟩) 32768 L := ⟨hlg, fun k hk => ⟨wr.heap.size, 0, rfl, hB7.lt, by rw [Nat.zero_add]; exact hB7.cell (by omega)⟩, hby⟩
            have hcv := conv_c (cap := 32768) hS7
            clear hS7 hB7 hb7 hB6 R6
            go_wp2
            go_ret
            exact ⟨rfl, R7⟩
      · have hS5 := hSv.on hb5 (Nat.le_refl _)
        have R5 := hb2.trans (hb5.mono hb2.size)
        have hmay := hS5.may (cap := cv) (by omega)
        generalize mayC L = E at *
        have hE : (E != 0) = true := by simp [hm1]
        clear hm1 hb5 hSv hPv hS5
        go_wp2_with fail
        refine hmay.mono ?_
        clear hmay
        rintro _ w6 ⟨rfl, hw⟩
        rw [hw]
        clear hw w6
        go_wp2
        go_ret
        exact ⟨rfl, R5⟩

set_option maxRecDepth 100000 in
set_option maxHeartbeats 1000000 in
theorem chunkTakes_walk (a : Option Addr) (n cap : Nat) (bs : List Int) (m k : Int) (w : World) (hS : Src w a n bs) (hk0 : 0 ≤ k) (hk1 : k ≤ 255) (hnil : a = none → n = 0 ∧ cap = 0) :
    Calls Try.prog 4 #[.slice a n cap, .int .i64 m, .int .u8 k] w fun e w' => e = .returned (.bool true) ∧ Below w.heap.size w w' := by
  by_cases m0 : m < 0
  · go_enter Try.func4, Try.ntmps4
    go_wp2_with fail
    refine (awake_c w).mono ?_
    rintro _ w1 ⟨rfl, hb1⟩
    go_wp2
    go_ret
    exact ⟨rfl, hb1⟩
  · by_cases m1 : 70000 < m
    · go_enter Try.func4, Try.ntmps4
      go_wp2_with fail
      refine (awake_c w).mono ?_
      rintro _ w1 ⟨rfl, hb1⟩
      go_wp2
      go_ret
      exact ⟨rfl, hb1⟩
    · by_cases m2 : 40000 < n
      · have m2' : (40000 : Int) < n := by omega
        go_enter Try.func4, Try.ntmps4
        go_wp2_with fail
        refine (awake_c w).mono ?_
        rintro _ w1 ⟨rfl, hb1⟩
        go_wp2
        go_ret
        exact ⟨rfl, hb1⟩
      · obtain ⟨M, rfl⟩ := Int.eq_ofNat_of_zero_le (show 0 ≤ m by omega)
        exact chunkTakes_in a n cap bs M k w hS (by omega) (by omega) hk0 hk1 hnil

set_option maxRecDepth 100000 in
theorem chunkTakes_lifted (os : Os) (started : os.Started) (H : Type) (enc : TypeId × Value → H) :
    ReturnsInHanded {} Try.checked os 4 .any (Rows.chunkTakesSpec.pre6 enc Try.prog Try.f4 Rows.chunkTakesRow.domain false) (Rows.chunkTakesSpec.post enc Try.prog Try.f4 false true false false) := by
  refine returnsInHanded_of_change (C := Try.checked) own started (by kernel_rfl) Try.func4
    (ChangeSpec.witness6 (enc := enc) (C := Try.checked) false ⟨#[], #[.slice none 0 0, .int .i64 0, .int .u8 0], []⟩ 8 (by kernel_rfl) (by kernel_rfl) (by kernel_rfl) (by kernel_rfl)) ?_
  intro W base args ds gs before hval0 hW _ _
  have hval : ∀ (j : Nat) t v, Try.f4.params[j]? = some t → args[j]? = some v → Value.okWide Try.prog W .any base t v := hval0
  have hW' := hW
  obtain ⟨p, q, hA0, hV, rfl, hfz, hnd⟩ := hW
  have hA : DataW.TrodAll enc Try.prog W 0 (fun _ => true) true Try.f4.params.toList args.toList ds p := hA0
  rw [Try.params4] at hA hval
  obtain ⟨v0, vs0, d0, ds0, p0, q0, hargs, rfl, rfl, h0, r0⟩ := trodAll_cons hA
  obtain ⟨v1, vs1, d1, ds1, p1, q1, rfl, rfl, rfl, h1, r1⟩ := trodAll_cons r0
  obtain ⟨v2, vs2, d2, ds2, p2, q2, rfl, rfl, rfl, h2, r2⟩ := trodAll_cons r1
  obtain ⟨rfl, rfl, rfl⟩ := trodAll_nil r2
  obtain rfl : args = #[v0, v1, v2] := by cases args; simp_all
  obtain ⟨rfl, rfl⟩ := trodVars_none hV
  obtain ⟨a_b, len_b, cap_b, rfl⟩ := okWide_slice Try.underlying25 (hval 0 25 v0 rfl rfl)
  have lt0 : ∀ x ∈ p0, x.block < W.heap.size := by obtain ⟨m, hm⟩ := h0; exact DataW.trod_lt m _ _ _ hm
  obtain ⟨bs_b, S_b, N_b⟩ := open_src0 h0
  obtain ⟨m, rfl, rfl, rfl, w_m⟩ := open_int Try.underlying3 (hval 1 3 v1 rfl rfl) h1
  obtain ⟨k, rfl, rfl, rfl, w_k⟩ := open_int Try.underlying5 (hval 2 5 v2 rfl rfl) h2
  clear hA0 hval0
  refine (chunkTakes_walk a_b len_b cap_b bs_b m k W S_b (bd8 w_k).1 (bd8 w_k).2 N_b).mono fun e W' ⟨he, bel⟩ => ?_
  subst he
  exact ⟨_, rfl, _, _, _, [], _, [], hW', trodAll_mk1 (shut_bool Try.underlying4 _), (trodAll_cons_mk (Below.trod laidOut (by kernel_rfl) (of_decide_eq_true (by kernel_rfl)) h0 bel lt0) (trodAll_cons_mk (shut_int Try.underlying3 w_m) (trodAll_cons_mk (shut_int Try.underlying5 w_k) trodAll_mk0))), rfl, bel.frame _, fun h => by cases h⟩

theorem chunkTakes_holds : Rows.ChunkTakesSaid :=
  OpenClaim.holds_of_wide 4 Try.f4 rfl rfl rfl rfl rfl rfl rfl ⟨rfl, rfl, rfl, rfl, rfl⟩ rfl rfl rfl rfl rfl (by kernel_rfl) Try.func4 (by kernel_rfl)
    (of_decide_eq_true (by kernel_rfl)) (by unfold Func.isWrapper; rw [if_neg (of_decide_eq_false (by kernel_rfl))]; exact ⟨rfl, rfl⟩)
    (fun os started H enc _ => chunkTakes_lifted os started H enc)
#print axioms chunkTakes_holds
end Go.Proofs.Ytdmogocnagbobaa
