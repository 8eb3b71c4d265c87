/-
  The program's reader: a chunk.
-/
import Derived.Test.YtdkihhjhjfkjjaaDpack
namespace Go.Proofs.Ytdkihhjhjfkjjaa
open Go.RowKit

theorem IsPal.one {X : Array Value} {l : List Int} (h : IsPal X l) : X.all (·.oneCell') = true := by
  rw [Array.all_eq_true_iff_forall_mem]
  intro v hv
  obtain ⟨i, hi, rfl⟩ := Array.mem_iff_getElem.1 hv
  have hs := h.size
  by_cases e : i = 17
  · subst e
    have := h.many
    rw [Array.getElem?_eq_getElem hi] at this
    rw [Option.some.inj this]
    rfl
  · have := h.kinds i (by omega)
    rw [Array.getElem?_eq_getElem hi] at this
    rw [Option.some.inj this]
    rfl
/-- What the reader answers of a chunk. -/
def ChunkSay (D : Int × List Int) (q : Nat) (w : World) (e : Ending) (w' : World) : Prop :=
  Below q w w' ∧ ((D.1 ≠ 0 ∧ e = gives D.1) ∨ (D.1 = 0 ∧ ∃ g, q < g ∧ e = .returned (.pointer (some ⟨g, 0, none⟩)) ∧ Blk w' g 61 D.2))

/-- From the cells on: what is told is read, and nothing may be left. -/
theorem tail_say {D : Int × List Int} {q b g : Nat} {w w1 w2 : World} {e : Ending} (hb : Below q w w1) (h : ReadSay D q b g w1 e w2) :
    (∃ E : Int, e = gives E ∧ ∀ w', Below q w w' → ChunkSay D q w (gives E) w') ∧ Below q w w2 ∨
    (e = .returned (.tuple #[]) ∧ Below q w w2 ∧ ∃ rest, Lefts w2 q b rest ∧ (rest ≠ [] → ∀ w', Below q w w' → ChunkSay D q w (gives 2) w') ∧ (rest = [] → q < g → ChunkSay D q w (.returned (.pointer (some ⟨g, 0, none⟩))) w2)) := by
  obtain ⟨h1, ⟨E, h2, h3, h4⟩ | ⟨out, rest, h2, h3, h4, h5, h6⟩⟩ := h
  · refine Or.inl ⟨⟨E, h4, fun w' hw => ⟨hw, Or.inl ?_⟩⟩, hb.trans h1⟩
    rw [h3]
    exact ⟨h2, rfl⟩
  · refine Or.inr ⟨h4, hb.trans h1, rest, h6, fun hr w' hw => ⟨hw, Or.inl ?_⟩, fun hr hq => ⟨hb.trans h1, Or.inr ?_⟩⟩
    · rw [h3, if_neg hr]; exact ⟨by show (2 : Int) ≠ 0; omega, rfl⟩
    · rw [h3, if_pos hr]; exact ⟨rfl, g, hq, rfl, h5⟩

theorem Lefts.drewN {w : World} {q b : Nat} {bs : List Int} (h : Lefts w q b bs) (n : Nat) : Lefts (w.drewN n) q b bs := by
  obtain ⟨off, k, c, h1, h2, h3, h4, h5⟩ := h
  exact ⟨off, k, c, h1, ⟨h2.n, h2.cells, h2.fit⟩, h3, h4, h5⟩

set_option maxRecDepth 1000000 in
set_option maxHeartbeats 2000000 in
theorem dchunk_short (q : Nat) (a : Option Addr) (n c : Nat) (bs : List Int) (w : World) (hR : Rdr w q a n c) (hB : Bytes w a n bs) (h : n < 2) : Calls Try.prog 34 #[.pointer (some ⟨q, 0, none⟩)] w (ChunkSay (decL bs) q w) := by
  have hl := hB.n
  have R : ChunkSay (decL bs) q w (gives 3) w := by
    have e : decL bs = (3, []) := by unfold decL; rw [if_pos (by omega)]
    rw [e]
    exact ⟨Below.refl _ _, Or.inl ⟨by show (3 : Int) ≠ 0; omega, rfl⟩⟩
  have hT := take_no q a n c 2 w hR h
  clear hR hB hl
  generalize ChunkSay (decL bs) q w = Post at *
  go_enter Try.func34, Try.ntmps34
  go_wp2_with fail
  refine hT.mono ?_
  rintro _ _ ⟨rfl, rfl⟩
  go_wp2
  exact ⟨rfl, R⟩

set_option maxRecDepth 1000000 in
set_option maxHeartbeats 2000000 in
theorem dchunk_c (q b : Nat) (bs : List Int) (w : World) (hL : Lefts w q b bs) (hn : 2 ≤ bs.length) : Calls Try.prog 34 #[.pointer (some ⟨q, 0, none⟩)] w (ChunkSay (decL bs) q w) := by
  obtain ⟨D, hD⟩ : ∃ D, D = decL bs := ⟨_, rfl⟩
  rw [← hD]
  have hfit : ∀ z ∈ bs, 0 ≤ z ∧ z ≤ 255 := by
    obtain ⟨_, _, _, _, hB, _⟩ := hL
    exact hB.fit
  obtain ⟨f, hf⟩ : ∃ f, f = bs.getD 0 0 := ⟨_, rfl⟩
  obtain ⟨K, hK⟩ := Int.eq_ofNat_of_zero_le (hfit _ (getD_mem (l := bs) (i := 1) (by omega))).1
  have hf0 := hfit _ (getD_mem (l := bs) (i := 0) (by omega))
  rw [← hf] at hf0
  have hK1 := hfit _ (getD_mem (l := bs) (i := 1) (by omega))
  rw [hK] at hK1
  have HD : Hid (D = if (f ≠ 1 ∧ f ≠ 2) ∨ (K : Int) < 1 ∨ 17 < (K : Int) then (4, []) else if (bs.length : Int) < 2 + K then (3, []) else if okPal ((bs.drop 2).take K) = false then (4, [])
      else if f = 1 then runsD ((bs.drop 2).take K) 32768 (bs.drop (2 + K)) else packD ((bs.drop 2).take K) (wid K) (bs.drop (2 + K))) := by
    show _ = _
    rw [hD]
    unfold decL
    rw [if_neg (by omega), ← hf, hK, Int.toNat_natCast]
  have Hfit : Hid (∀ z ∈ bs, 0 ≤ z ∧ z ≤ 255) := hfit
  have HTk : Hid (Calls Try.prog 41 #[.pointer (some ⟨q, 0, none⟩), .int .i64 2] w fun e w' => (∃ off c, e = .returned (.slice (some ⟨b, off, none⟩) 2 c) ∧ w'.cell? ⟨b, off, none⟩ = some (.int .u8 f) ∧ w'.cell? ⟨b, off + 1, none⟩ = some (.int .u8 (K : Int))) ∧ Lefts w' q b (bs.drop 2) ∧ Below q w w') := by
    refine (ltake_yes q b 2 bs w hL (by omega) hn).mono ?_
    rintro e w' ⟨⟨off, c, h1, h2, h3⟩, h4, h5⟩
    refine ⟨⟨off, c, h1, ?_, ?_⟩, h4, h5.below (Nat.le_refl _)⟩
    · obtain ⟨b', o', z, e, hc, _, _, hk, hz⟩ := h2.get 0 (by omega)
      cases e
      rw [hz, List.getElem_take] at hc
      rw [hf, List.getD_eq_getElem?_getD, List.getElem?_eq_getElem (by omega)]
      exact hc
    · obtain ⟨b', o', z, e, hc, _, _, hk, hz⟩ := h2.get 1 (by omega)
      cases e
      rw [hz, List.getElem_take] at hc
      rw [← hK, List.getD_eq_getElem?_getD, List.getElem?_eq_getElem (by omega)]
      exact hc
  have hq := hL.lt
  have Hq : Hid (q < w.heap.size) := hq
  obtain ⟨Post, hPost⟩ : ∃ Post, Post = ChunkSay D q w := ⟨_, rfl⟩
  rw [← hPost]
  have HP : Hid (Post = ChunkSay D q w) := hPost
  have HG : Hid (∀ (E : Int) w', E ≠ 0 → D = (E, []) → Below q w w' → Post (gives E) w') := fun E w' h1 h2 h3 => by
    rw [hPost, h2]
    exact ⟨h3, Or.inl ⟨h1, rfl⟩⟩
  clear hPost hD hL hfit hf hK hq
  obtain ⟨f0, f1⟩ := hf0
  go_enter Try.func34, Try.ntmps34
  go_wp2_with fail
  refine HTk.out.mono ?_
  clear HTk
  rintro _ w2 ⟨⟨off, c, rfl, hc0, hc1⟩, hL2, hb2⟩
  have HL2 : Hid (Lefts w2 q b (bs.drop 2)) := hL2
  have Hb2 : Hid (Below q w w2) := hb2
  clear hL2 hb2
  by_cases hf1 : f = 1
  · subst hf1
    go_wp2_with fail
    go_big_quiet (fail)
    go_wp2_with fail
    refine (check_yes 4 _).mono ?_
    rintro _ w9 ⟨rfl, e9⟩
    rw [e9]
    clear e9 w9
    have HL3 : Hid (Lefts (w2.drewN nq) q b (bs.drop 2)) := Lefts.drewN HL2.out nq
    have Hb3 : Hid (Below q w (w2.drewN nq)) := below_drewN Hb2.out nq
    clear HL2 Hb2 hc0 hc1
    generalize w2.drewN nq = w3 at *
    by_cases hk1 : K < 1
    · obtain rfl : K = 0 := by omega
      have R := HG.out 4 w3 (by omega) (by rw [HD.out, if_pos (Or.inr (Or.inl (by omega)))]) Hb3.out
      clear HD HG HP HL3 Hb3
      go_wp2_with fail
      refine (check_no 4 _).mono ?_
      rintro _ _ ⟨rfl, rfl⟩
      go_wp2
      exact ⟨rfl, R⟩
    · by_cases hk2 : 17 < K
      · have R := HG.out 4 w3 (by omega) (by rw [HD.out, if_pos (Or.inr (Or.inr (by omega)))]) Hb3.out
        have h1' : (1 : Int) ≤ K := by omega
        have h2' : ¬ (K : Int) ≤ 17 := by omega
        have HN : Hid (¬ K ≤ 17) := by show ¬ _; omega
        clear HD HG HP HL3 Hb3 hk1 hk2
        go_wp2_with fail
        refine (check_not (by first | rfl | exact decide_eq_false (by have := HN.out; omega)) 4 _).mono ?_
        rintro _ _ ⟨rfl, rfl⟩
        go_wp2
        exact ⟨rfl, R⟩
      · have h1' : (1 : Int) ≤ K := by omega
        have h2' : (K : Int) ≤ 17 := by omega
        have h1n : 1 ≤ K := by omega
        have h2n : K ≤ 17 := by omega
        have HD2 : Hid (D = if (bs.length : Int) < 2 + K then (3, []) else if okPal ((bs.drop 2).take K) = false then (4, []) else runsD ((bs.drop 2).take K) 32768 (bs.drop (2 + K))) := by
          show _ = _
          rw [HD.out, if_neg (by omega)]
          simp only [if_true]
        clear HD hk1 hk2
        go_wp2_with fail
        refine (check_yes 4 _).mono ?_
        rintro _ w9 ⟨rfl, e9⟩
        rw [e9]
        clear e9 w9
        by_cases hs : bs.length < 2 + K
        · have R : ∀ w', Below q w w' → Post (gives 3) w' := fun w' h => HG.out 3 w' (by omega) (by rw [HD2.out, if_pos (by omega)]) h
          have HR : Hid (∀ w', Below q w w' → Post (gives 3) w') := R
          obtain ⟨o5, n5, c5, hR5, hB5, _⟩ := HL3.out
          have hsh := rpal_short q _ n5 c5 K w3 hR5 (by have := hB5.n; rw [List.length_drop] at this; omega)
          clear HD2 HG HP HL3 R hR5 hB5
          go_wp2_with fail
          refine hsh.mono ?_
          clear hsh
          rintro _ w4 ⟨rfl, hb4⟩
          have R := HR.out w4 (Hb3.out.trans hb4)
          clear HR hb4
          go_wp2
          exact ⟨rfl, R⟩
        · have hpc := rpal_c q b K (bs.drop 2) w3 HL3.out h1n h2n (by rw [List.length_drop]; omega)
          have HD3 : Hid (D = if okPal ((bs.drop 2).take K) = false then (4, []) else runsD ((bs.drop 2).take K) 32768 (bs.drop (2 + K))) := by
            show _ = _
            rw [HD2.out, if_neg (by omega)]
          have Hlen : Hid (((bs.drop 2).take K).length = K) := by show _ = _; rw [List.length_take, List.length_drop]; omega
          have Hpf : Hid (∀ z ∈ (bs.drop 2).take K, 0 ≤ z ∧ z ≤ 255) := fun z hz => Hfit.out z (List.mem_of_mem_drop (List.mem_of_mem_take hz))
          have hdd : (bs.drop 2).drop K = bs.drop (2 + K) := by rw [List.drop_drop]
          rw [hdd] at hpc
          clear HD2 hs hdd
          generalize (bs.drop 2).take K = l at *
          go_wp2_with fail
          refine hpc.mono ?_
          clear hpc
          rintro _ w4 ⟨hb4, ⟨hok, rfl⟩ | ⟨hok, X, rfl, hX, hL4⟩⟩
          · have R := HG.out 4 w4 (by omega) (by rw [HD3.out, if_pos hok]) (Hb3.out.trans hb4)
            clear HD3 HG HP HL3 hb4 hok
            go_wp2
            exact ⟨rfl, R⟩
          · have Hb4 : Hid (Below q w w4) := Hb3.out.trans hb4
            have HD4 : Hid (D = runsD l 32768 (bs.drop (2 + K))) := by
              show _ = _
              rw [HD3.out, if_neg (by rw [hok]; simp)]
            have HL4 : Hid (Lefts w4 q b (bs.drop (2 + K))) := hL4
            have HX : Hid (IsPal X l) := hX
            have HKs : Hid (AreKinds l) := okPal_kinds Hpf.out hok
            have hone := hX.one
            have hsz := hX.size
            clear HD3 HL3 Hb3 hb4 hok hX hL4
            have hq4 := HL4.out.lt
            go_wp2_with (refine wpList_store_pal rfl (.tmp 6) (.tmp 33) rfl w4.heap.size X rfl rfl (palZ 0) (heap_alloc_new w4 _) rfl hsz hone ?_; intro w5 hO5 hX5; have hs5 := hO5.size; rw [World.size_alloc] at hs5; have hb5 : Below w4.heap.size w4 w5 := ((Below.refl _ _).alloc (Nat.le_refl _) _).trans (hO5.below (Nat.le_refl _)); clear hO5)
            refine (new_c w5).mono ?_
            rintro _ w6 ⟨rfl, e6⟩
            have hb6 : Below w5.heap.size w5 w6 := by rw [e6]; exact (Below.refl _ _).alloc (Nat.le_refl _) _
            have HG6 : Hid (Blk w6 w5.heap.size 61 (List.replicate 32768 0)) := by rw [e6]; exact Blk.new w5 61 _
            have hX6 : w6.heap[w4.heap.size]? = some (.cells X 48 (0, 0)) := (hb6.block _ (by omega)).trans hX5
            have HL6 : Hid (Lefts w6 q b (bs.drop (2 + K))) := (HL4.out.below hb5 hq4).below hb6 (by omega)
            have Hb6 : Hid (Below q w w6) := (Hb4.out.trans (hb5.mono (by omega))).trans (hb6.mono (by omega))
            have hZ : (List.replicate 32768 (0 : Int)).length = 32768 := List.length_replicate
            clear e6 hb6 hb5 hX5 HL4 Hb4
            generalize List.replicate 32768 (0 : Int) = Z at *
            have HRd : Hid (Calls Try.prog 44 #[.pointer (some ⟨q, 0, none⟩), .agg X, .pointer (some ⟨w5.heap.size, 0, none⟩)] w6 (ReadSay D q b w5.heap.size w6)) := by
              have := (druns_c q b w5.heap.size X l (bs.drop (2 + K)) Z w6 HL6.out HX.out (by rw [Hlen.out]; exact h2n) HKs.out HG6.out hZ (by omega)).mono (fun _ _ h => h.read)
              
              rw [← HD4.out] at this
              exact this
            have Hqg : Hid (q < w5.heap.size) := by show _ < _; omega
            clear HD4 HL6 HX HG6 hZ HKs Hlen Hpf hq4 hs5
            generalize w5.heap.size = g at *
            go_wp2_with (refine wpList_load_pal rfl (.tmp 6) rfl w4.heap.size X rfl hX6 hsz ?_)
            refine HRd.out.mono ?_
            clear HRd
            intro e7 w7 h7
            rcases tail_say Hb6.out h7 with ⟨⟨E, rfl, hE⟩, hb7⟩ | ⟨rfl, hb7, rest, hL7, hE2, hE0⟩
            · have R : Post (gives E) w7 := by rw [HP.out]; exact hE w7 hb7
              clear h7 hE hb7 HG HP
              go_wp2
              exact ⟨rfl, R⟩
            · obtain ⟨o8, n8, c8, hR8, hB8, _⟩ := hL7
              have hc8 := hR8.cell
              have hn8 := hB8.n
              by_cases h0 : n8 = 0
              · subst h0
                have R : Post (.returned (.pointer (some ⟨g, 0, none⟩))) w7 := by rw [HP.out]; exact hE0 (List.eq_nil_of_length_eq_zero hn8) Hqg.out
                clear h7 hE2 hE0 hb7 HG HP hR8 hB8 hn8
                go_wp2_with fail
                refine (check_yes 2 _).mono ?_
                rintro _ _ ⟨rfl, rfl⟩
                go_wp2
                exact R
              · have h0' : ((n8 : Int) == 0) = false := by simp [h0]
                have R : Post (gives 2) w7 := by rw [HP.out]; exact hE2 (by intro e; subst e; simp at hn8; omega) w7 hb7
                clear h7 hE2 hE0 hb7 HG HP hR8 hB8 hn8
                go_wp2_with fail
                refine (check_no 2 _).mono ?_
                rintro _ _ ⟨rfl, rfl⟩
                go_wp2
                exact ⟨rfl, R⟩
  · by_cases hf2 : f = 2
    · subst hf2
      go_wp2_with fail
      go_big_quiet (fail)
      go_wp2_with fail
      refine (check_yes 4 _).mono ?_
      rintro _ w9 ⟨rfl, e9⟩
      rw [e9]
      clear e9 w9
      have HL3 : Hid (Lefts (w2.drewN nq) q b (bs.drop 2)) := Lefts.drewN HL2.out nq
      have Hb3 : Hid (Below q w (w2.drewN nq)) := below_drewN Hb2.out nq
      clear HL2 Hb2 hc0 hc1
      generalize w2.drewN nq = w3 at *
      by_cases hk1 : K < 1
      · obtain rfl : K = 0 := by omega
        have R := HG.out 4 w3 (by omega) (by rw [HD.out, if_pos (Or.inr (Or.inl (by omega)))]) Hb3.out
        clear HD HG HP HL3 Hb3
        go_wp2_with fail
        refine (check_no 4 _).mono ?_
        rintro _ _ ⟨rfl, rfl⟩
        go_wp2
        exact ⟨rfl, R⟩
      · by_cases hk2 : 17 < K
        · have R := HG.out 4 w3 (by omega) (by rw [HD.out, if_pos (Or.inr (Or.inr (by omega)))]) Hb3.out
          have h1' : (1 : Int) ≤ K := by omega
          have h2' : ¬ (K : Int) ≤ 17 := by omega
          have HN : Hid (¬ K ≤ 17) := by show ¬ _; omega
          clear HD HG HP HL3 Hb3 hk1 hk2
          go_wp2_with fail
          refine (check_not (by first | rfl | exact decide_eq_false (by have := HN.out; omega)) 4 _).mono ?_
          rintro _ _ ⟨rfl, rfl⟩
          go_wp2
          exact ⟨rfl, R⟩
        · have h1' : (1 : Int) ≤ K := by omega
          have h2' : (K : Int) ≤ 17 := by omega
          have h1n : 1 ≤ K := by omega
          have h2n : K ≤ 17 := by omega
          have HD2 : Hid (D = if (bs.length : Int) < 2 + K then (3, []) else if okPal ((bs.drop 2).take K) = false then (4, []) else packD ((bs.drop 2).take K) (wid K) (bs.drop (2 + K))) := by
            show _ = _
            rw [HD.out, if_neg (by omega)]
            rw [if_neg (show ¬ (2 : Int) = 1 by omega)]
          clear HD hk1 hk2
          go_wp2_with fail
          refine (check_yes 4 _).mono ?_
          rintro _ w9 ⟨rfl, e9⟩
          rw [e9]
          clear e9 w9
          by_cases hs : bs.length < 2 + K
          · have R : ∀ w', Below q w w' → Post (gives 3) w' := fun w' h => HG.out 3 w' (by omega) (by rw [HD2.out, if_pos (by omega)]) h
            have HR : Hid (∀ w', Below q w w' → Post (gives 3) w') := R
            obtain ⟨o5, n5, c5, hR5, hB5, _⟩ := HL3.out
            have hsh := rpal_short q _ n5 c5 K w3 hR5 (by have := hB5.n; rw [List.length_drop] at this; omega)
            clear HD2 HG HP HL3 R hR5 hB5
            go_wp2_with fail
            refine hsh.mono ?_
            clear hsh
            rintro _ w4 ⟨rfl, hb4⟩
            have R := HR.out w4 (Hb3.out.trans hb4)
            clear HR hb4
            go_wp2
            exact ⟨rfl, R⟩
          · have hpc := rpal_c q b K (bs.drop 2) w3 HL3.out h1n h2n (by rw [List.length_drop]; omega)
            have HD3 : Hid (D = if okPal ((bs.drop 2).take K) = false then (4, []) else packD ((bs.drop 2).take K) (wid K) (bs.drop (2 + K))) := by
              show _ = _
              rw [HD2.out, if_neg (by omega)]
            have Hlen : Hid (((bs.drop 2).take K).length = K) := by show _ = _; rw [List.length_take, List.length_drop]; omega
            have Hpf : Hid (∀ z ∈ (bs.drop 2).take K, 0 ≤ z ∧ z ≤ 255) := fun z hz => Hfit.out z (List.mem_of_mem_drop (List.mem_of_mem_take hz))
            have hdd : (bs.drop 2).drop K = bs.drop (2 + K) := by rw [List.drop_drop]
            rw [hdd] at hpc
            clear HD2 hs hdd
            generalize (bs.drop 2).take K = l at *
            go_wp2_with fail
            refine hpc.mono ?_
            clear hpc
            rintro _ w4 ⟨hb4, ⟨hok, rfl⟩ | ⟨hok, X, rfl, hX, hL4⟩⟩
            · have R := HG.out 4 w4 (by omega) (by rw [HD3.out, if_pos hok]) (Hb3.out.trans hb4)
              clear HD3 HG HP HL3 hb4 hok
              go_wp2
              exact ⟨rfl, R⟩
            · have Hb4 : Hid (Below q w w4) := Hb3.out.trans hb4
              have HD4 : Hid (D = packD l (wid K) (bs.drop (2 + K))) := by
                show _ = _
                rw [HD3.out, if_neg (by rw [hok]; simp)]
              have HL4 : Hid (Lefts w4 q b (bs.drop (2 + K))) := hL4
              have HX : Hid (IsPal X l) := hX
              have HKs : Hid (AreKinds l) := okPal_kinds Hpf.out hok
              have hone := hX.one
              have hsz := hX.size
              clear HD3 HL3 Hb3 hb4 hok hX hL4
              have hq4 := HL4.out.lt
              go_wp2_with (refine wpList_store_pal rfl (.tmp 6) (.tmp 33) rfl w4.heap.size X rfl rfl (palZ 0) (heap_alloc_new w4 _) rfl hsz hone ?_; intro w5 hO5 hX5; have hs5 := hO5.size; rw [World.size_alloc] at hs5; have hb5 : Below w4.heap.size w4 w5 := ((Below.refl _ _).alloc (Nat.le_refl _) _).trans (hO5.below (Nat.le_refl _)); clear hO5)
              refine (new_c w5).mono ?_
              rintro _ w6 ⟨rfl, e6⟩
              have hb6 : Below w5.heap.size w5 w6 := by rw [e6]; exact (Below.refl _ _).alloc (Nat.le_refl _) _
              have HG6 : Hid (Blk w6 w5.heap.size 61 (List.replicate 32768 0)) := by rw [e6]; exact Blk.new w5 61 _
              have hX6 : w6.heap[w4.heap.size]? = some (.cells X 48 (0, 0)) := (hb6.block _ (by omega)).trans hX5
              have HL6 : Hid (Lefts w6 q b (bs.drop (2 + K))) := (HL4.out.below hb5 hq4).below hb6 (by omega)
              have Hb6 : Hid (Below q w w6) := (Hb4.out.trans (hb5.mono (by omega))).trans (hb6.mono (by omega))
              have hZ : (List.replicate 32768 (0 : Int)).length = 32768 := List.length_replicate
              clear e6 hb6 hb5 hX5 HL4 Hb4
              generalize List.replicate 32768 (0 : Int) = Z at *
              have HRd : Hid (Calls Try.prog 45 #[.pointer (some ⟨q, 0, none⟩), .agg X, .pointer (some ⟨w5.heap.size, 0, none⟩)] w6 (ReadSay D q b w5.heap.size w6)) := by
                have := dpacked_c q b w5.heap.size X l (bs.drop (2 + K)) Z w6 HL6.out HX.out (by rw [Hlen.out]; exact h2n) HKs.out HG6.out hZ (by omega)
                rw [Hlen.out] at this
                rw [← HD4.out] at this
                exact this
              have Hqg : Hid (q < w5.heap.size) := by show _ < _; omega
              clear HD4 HL6 HX HG6 hZ HKs Hlen Hpf hq4 hs5
              generalize w5.heap.size = g at *
              go_wp2_with (refine wpList_load_pal rfl (.tmp 6) rfl w4.heap.size X rfl hX6 hsz ?_)
              refine HRd.out.mono ?_
              clear HRd
              intro e7 w7 h7
              rcases tail_say Hb6.out h7 with ⟨⟨E, rfl, hE⟩, hb7⟩ | ⟨rfl, hb7, rest, hL7, hE2, hE0⟩
              · have R : Post (gives E) w7 := by rw [HP.out]; exact hE w7 hb7
                clear h7 hE hb7 HG HP
                go_wp2
                exact ⟨rfl, R⟩
              · obtain ⟨o8, n8, c8, hR8, hB8, _⟩ := hL7
                have hc8 := hR8.cell
                have hn8 := hB8.n
                by_cases h0 : n8 = 0
                · subst h0
                  have R : Post (.returned (.pointer (some ⟨g, 0, none⟩))) w7 := by rw [HP.out]; exact hE0 (List.eq_nil_of_length_eq_zero hn8) Hqg.out
                  clear h7 hE2 hE0 hb7 HG HP hR8 hB8 hn8
                  go_wp2_with fail
                  refine (check_yes 2 _).mono ?_
                  rintro _ _ ⟨rfl, rfl⟩
                  go_wp2
                  exact R
                · have h0' : ((n8 : Int) == 0) = false := by simp [h0]
                  have R : Post (gives 2) w7 := by rw [HP.out]; exact hE2 (by intro e; subst e; simp at hn8; omega) w7 hb7
                  clear h7 hE2 hE0 hb7 HG HP hR8 hB8 hn8
                  go_wp2_with fail
                  refine (check_no 2 _).mono ?_
                  rintro _ _ ⟨rfl, rfl⟩
                  go_wp2
                  exact ⟨rfl, R⟩
    · have e1 : (f == 1) = false := by simp [hf1]
      have e2 : (f == 2) = false := by simp [hf2]
      have HR : Hid (∀ w', Below q w w' → Post (gives 4) w') := fun w' h => HG.out 4 w' (by omega) (by rw [HD.out, if_pos (Or.inl ⟨hf1, hf2⟩)]) h
      clear HD HG HP HL2 hf1 hf2
      go_wp2_with fail
      go_big_quiet (fail)
      go_wp2_with fail
      refine (check_no 4 _).mono ?_
      rintro _ w9 ⟨rfl, e9⟩
      rw [e9]
      clear e9 w9
      have R := HR.out _ (below_drewN Hb2.out nq)
      clear HR
      go_wp2
      exact ⟨rfl, R⟩
end Go.Proofs.Ytdkihhjhjfkjjaa
