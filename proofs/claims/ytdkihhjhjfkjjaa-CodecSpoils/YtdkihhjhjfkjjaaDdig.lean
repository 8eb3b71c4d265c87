/-
  The program's reader: runs.
-/
import Derived.Test.YtdkihhjhjfkjjaaDlefts
import Derived.Test.YtdkihhjhjfkjjaaRpure
namespace Go.Proofs.Ytdkihhjhjfkjjaa
open Go.RowKit

/-- What runs answer: they give up, or all cells stand there and the rest is left. -/
def RunsSay (l bs : List Int) (q b g : Nat) (w : World) (e : Ending) (w' : World) : Prop :=
  Below q w w' ∧ ((∃ E : Int, E ≠ 0 ∧ runsD l 32768 bs = (E, []) ∧ e = gives E) ∨ (∃ out rest, out.length = 32768 ∧ runsD l 32768 bs = comb out (runsD l 0 rest) ∧ e = .returned (.tuple #[]) ∧ Blk w' g 61 out ∧ Lefts w' q b rest))
/-- The first cells stand there. -/
def Stand (w : World) (g : Nat) (out : List Int) : Prop := ∃ cs, Blk w g 61 cs ∧ cs.length = 32768 ∧ cs.take out.length = out
theorem Stand.set {w' : World} {g A N : Nat} {out cs : List Int} {x : Int} (hl : cs.length = 32768) (ho : out.length = A + N) (h : cs.take (A + N) = out) (hi : A + N < 32768) (hB : Blk w' g 61 (setC cs ((A : Int) + (N : Int)) x)) (hx : 0 ≤ x ∧ x ≤ 16) :
    Stand w' g (out ++ [x]) := by
  rw [(okSet_yes (i := (A : Int) + (N : Int)) (k := x) ⟨by omega, by omega, hx.1, hx.2⟩ cs).2, show ((A : Int) + (N : Int)).toNat = A + N by omega] at hB
  refine ⟨_, hB, by rw [List.length_set, hl], ?_⟩
  rw [List.length_append, List.length_singleton, ho, List.take_set, List.take_add_one, h, List.set_append, if_neg (by omega)]
  have : A + N < cs.length := by omega
  simp [ho, this]

theorem one_cell {w : World} {b o : Nat} {x : Int} (h : Bytes w (some ⟨b, o, none⟩) 1 [x]) : w.cell? ⟨b, o, none⟩ = some (.int .u8 x) := by
  obtain ⟨b', o', z, e, hc, _, _, hk, hz⟩ := h.get 0 (by omega)
  cases e
  rw [hz] at hc
  exact hc

set_option maxRecDepth 1000000 in
set_option maxHeartbeats 2000000 in
theorem druns_c (q b g : Nat) (X : Array Value) (l bs Z : List Int) (w : World) (hL : Lefts w q b bs) (hX : IsPal X l) (hl : l.length ≤ 17) (hk : AreKinds l) (hG : Blk w g 61 Z) (hZ : Z.length = 32768) (hqg : q < g) :
    Calls Try.prog 44 #[.pointer (some ⟨q, 0, none⟩), .agg X, .pointer (some ⟨g, 0, none⟩)] w (RunsSay l bs q b g w) := by
  have hq := hL.lt
  have hg := hG.lt
  have HX : Hid (IsPal X l) := hX
  have hXs := hX.size
  have HC0 : Hid (runsD l 32768 bs = comb [] (runsD l (32768 - ([] : List Int).length) bs)) := by show _ = _; rw [comb_nil]; rfl
  have HF : Hid (∀ (E : Int) w', E ≠ 0 → runsD l 32768 bs = (E, []) → Below q w w' → RunsSay l bs q b g w (gives E) w') := fun E w' h1 h2 h3 => ⟨h3, Or.inl ⟨E, h1, h2, rfl⟩⟩
  have HT : Hid (∀ w' out rest, out.length = 32768 → runsD l 32768 bs = comb out (runsD l 0 rest) → Blk w' g 61 out → Lefts w' q b rest → Below q w w' → RunsSay l bs q b g w (.returned (.tuple #[])) w') := fun w' out rest h1 h2 h3 h4 h5 => ⟨h5, Or.inr ⟨out, rest, h1, h2, rfl, h3, h4⟩⟩
  obtain ⟨Post, hPost⟩ : ∃ Post, Post = RunsSay l bs q b g w := ⟨_, rfl⟩
  rw [← hPost]
  have HP : Hid (Post = RunsSay l bs q b g w) := hPost
  clear hPost
  have Hw1 : Hid (Below w.heap.size w (w.alloc (.cells X 48))) := (Below.refl _ _).alloc (Nat.le_refl _) _
  have HS0 : Hid (Stand (w.alloc (.cells X 48)) g ([] : List Int)) := ⟨Z, hG.below Hw1.out hg, hZ, rfl⟩
  have HL0 : Hid (Lefts (w.alloc (.cells X 48)) q b bs) := hL.below Hw1.out hq
  have HX0 : Hid ((w.alloc (.cells X 48)).heap[w.heap.size]? = some (.cells X 48 (0, 0))) := heap_alloc_new w _
  have HB0 : Hid (Below q w (w.alloc (.cells X 48))) := Hw1.out.mono (Nat.le_of_lt hq)
  clear hL hX hG hZ Hw1
  go_enter Try.func44, Try.ntmps44
  go_wp2
  generalize w.alloc (.cells X 48) = wa at *
  go_loopw [6] (fun v6 wr => ∃ (A : Nat) (out rest : List Int), A ≤ 32768 ∧ v6 = .int .i64 (A : Int) ∧ Hid (out.length = A) ∧ Hid (runsD l 32768 bs = comb out (runsD l (32768 - out.length) rest)) ∧ Hid (Stand wr g out) ∧ Hid (Lefts wr q b rest) ∧ Hid (wr.heap[w.heap.size]? = some (.cells X 48 (0, 0))) ∧ Hid (Below q w wr)) (fun v _ => 32768 - (intOf v).toNat)
  case atStart => exact ⟨0, [], bs, by omega, rfl, rfl, HC0, HS0, HL0, HX0, HB0⟩
  case round =>
    obtain ⟨A, out, rest, hA, rfl, HA, HC, HS, HL, HXr, Hb⟩ := hrel
    clear HC0 HS0 HL0 HX0 HB0
    by_cases hlt : A < 32768
    · have hlt' : (A : Int) < 32768 := by omega
      obtain ⟨Nd, hNd⟩ : ∃ Nd : Nat, (32768 : Int) - (A : Int) = (Nd : Int) := ⟨32768 - A, by omega⟩
      have HNd : Hid (32768 - A = Nd) := by show _ = _; omega
      have Hneed : Hid (Nd ≠ 0) := by show _ ≠ _; omega
      have HC' : Hid (runsD l 32768 bs = comb out (runsD l Nd rest)) := by show _ = _; rw [← HNd.out, ← HA.out]; exact HC.out
      clear HC
      by_cases h0 : rest = []
      · subst h0
        have R : Post (gives 3) wr := by rw [HP.out]; exact HF.out 3 wr (by omega) (by rw [HC'.out, runsD_short l _ Hneed.out]; rfl) Hb.out
        have HN : Hid (Calls Try.prog 48 #[.pointer (some ⟨q, 0, none⟩), .int .i64 (Nd : Int)] wr fun e w' => e = gives 3 ∧ w' = wr) := lnumber_short q b Nd wr HL.out
        clear HF HT HP HC' HS HL HXr Hb HX
        go_wp2_with fail
        refine HN.out.mono ?_
        clear HN
        rintro _ _ ⟨rfl, rfl⟩
        go_wp2
        exact ⟨rfl, R⟩
      · have Hbyte : Hid (∀ z ∈ rest, 0 ≤ z ∧ z ≤ 255) := by
          obtain ⟨_, _, _, _, hB, _⟩ := HL.out
          exact hB.fit
        by_cases hgd : (getL rest).1 < 1 ∨ (Nd : Int) < (getL rest).1
        · have R : Post (gives 4) wr := by rw [HP.out]; exact HF.out 4 wr (by omega) (by rw [HC'.out, runsD_form l _ rest Hneed.out h0 (Or.inr hgd)]; rfl) Hb.out
          have HN : Hid (Calls Try.prog 48 #[.pointer (some ⟨q, 0, none⟩), .int .i64 (Nd : Int)] wr fun e w' => e = gives 4 ∧ w' = wr) := lnumber_form q b rest Nd wr HL.out h0 hgd
          clear HF HT HP HC' HS HL HXr Hb HX hgd h0
          go_wp2_with fail
          refine HN.out.mono ?_
          clear HN
          rintro _ _ ⟨rfl, rfl⟩
          go_wp2
          exact ⟨rfl, R⟩
        · have HH : Hid (¬ ((getL rest).2 = 0 ∨ (getL rest).1 < 1 ∨ (Nd : Int) < (getL rest).1)) := by
            rintro (h | h)
            · have := getL_two h; omega
            · exact hgd h
          obtain ⟨G, hG⟩ := Int.eq_ofNat_of_zero_le (getL_in Hbyte.out).1
          have HG : Hid ((getL rest).1 = (G : Int) ∧ 1 ≤ G ∧ G ≤ Nd) := ⟨hG, by omega, by omega⟩
          have HN : Hid (Calls Try.prog 48 #[.pointer (some ⟨q, 0, none⟩), .int .i64 (Nd : Int)] wr fun e w' => e = .returned (.int .i64 (G : Int)) ∧ Lefts w' q b (rest.drop (getL rest).2.toNat) ∧ Only q wr w') := by
            have := lnumber_yes q b rest Nd wr HL.out h0 (by omega) (by omega)
            rw [hG] at this
            rw [hG] at *
            exact this
          have Hne : Hid (rest ≠ []) := h0
          clear hG hgd h0 Hbyte HL
          go_wp2_with fail
          refine HN.out.mono ?_
          clear HN
          rintro _ w2 ⟨rfl, hL2, hO2⟩
          have HS2 : Hid (Stand w2 g out) := by
            obtain ⟨cs, hC, h2, h3⟩ := HS.out
            exact ⟨cs, hC.only hO2 (by omega), h2, h3⟩
          have HX2 : Hid (w2.heap[w.heap.size]? = some (.cells X 48 (0, 0))) := (hO2.block _ (by omega)).trans HXr.out
          have Hb2 : Hid (Below q w w2) := Hb.out.trans (hO2.below (Nat.le_refl _))
          clear hO2 HS HXr Hb
          rcases hd : rest.drop (getL rest).2.toNat with _ | ⟨pz, r⟩
          · rw [hd] at hL2
            have R : ∀ w3 : World, Below q w w3 → Post (gives 3) w3 := fun w3 h3 => by rw [HP.out]; exact HF.out 3 w3 (by omega) (by rw [HC'.out, runsD_cut l _ rest Hneed.out Hne.out HH.out hd]; rfl) h3
            have HR : Hid (∀ w3 : World, Below q w w3 → Post (gives 3) w3) := R
            clear HF HT HP HC' HX R hd HH
            go_wp2_with fail
            refine wp_region_held_drew (S := fun w' => w'.heap[w.heap.size]? = some (.cells X 48 (0, 0))) (by kernel_rfl) (by exact HX2.out) (fun hHeld => ?_)
            have hne : Nonempty (Sub (fun w' => w'.heap[w.heap.size]? = some (.cells X 48 (0, 0)))) := ⟨⟨_, hHeld⟩⟩
            refine wpAnyH_take (i := 0) (v := .agg X) rfl (by kernel_rfl) (by kernel_rfl) (by kernel_rfl) (fun _ _ _ h => h) (yields_pal (by rfl) (.tmp 4) rfl w.heap.size rfl X hXs (fun _ h => h)) (by exact hHeld) ?_
            refine take_step (i := 1) rfl (by kernel_rfl) (by kernel_rfl) (by kernel_rfl) (fun _ _ _ _ h => h) (by exact hHeld) (fun K hK => ?_)
            go_simp
            refine hK _ ?_
            clear hK K
            refine wpAnyH_ready (rs := [2]) (by kernel_rfl) (by simp) ?_
            refine AllReadyH.cons rfl (fun K hK => ?_) AllReadyH.nil
            go_simp
            refine (ltake_no q b 1 [] _ hL2.drew (by simp)).mono ?_
            rintro _ _ ⟨rfl, rfl⟩
            go_wp2
            exact ⟨rfl, HR.out _ (below_drew Hb2.out)⟩
          · have hpb : 0 ≤ pz ∧ pz ≤ 255 := by
              obtain ⟨_, _, _, _, hB, _⟩ := hL2
              exact hB.fit pz (by rw [hd]; exact List.mem_cons_self ..)
            rw [hd] at hL2
            obtain ⟨PZ, rfl⟩ := Int.eq_ofNat_of_zero_le hpb.1
            have Htk : Hid (∀ w, Lefts w q b ((PZ : Int) :: r) → Calls Try.prog 41 #[.pointer (some ⟨q, 0, none⟩), .int .i64 1] w fun e w' =>
                (∃ off c, e = .returned (.slice (some ⟨b, off, none⟩) 1 c) ∧ Bytes w' (some ⟨b, off, none⟩) 1 [(PZ : Int)] ∧ b < q) ∧ Lefts w' q b r ∧ Only q w w') := fun w h => ltake_yes q b 1 ((PZ : Int) :: r) w h (by omega) (by simp)
            obtain ⟨hp0, hp1⟩ := hpb
            have hwr : IntKind.i64.wrap (PZ : Int) = (PZ : Int) := by rw [IntKind.wrap_i64]; omega
            by_cases hfar : l.length ≤ PZ
            · have R : ∀ w3 : World, Below q w w3 → Post (gives 4) w3 := fun w3 h3 => by rw [HP.out]; exact HF.out 4 w3 (by omega) (by rw [HC'.out, runsD_far l _ rest Hneed.out Hne.out HH.out hd (by omega)]; rfl) h3
              have HR : Hid (∀ w3 : World, Below q w w3 → Post (gives 4) w3) := R
              have Hfar : Hid ((l.length : Int) ≤ PZ) := by show (l.length : Int) ≤ PZ; omega
              clear HF HT HP HC' R hd HH hfar
              go_wp2_with fail
              refine wp_region_held_drew (S := fun w' => w'.heap[w.heap.size]? = some (.cells X 48 (0, 0))) (by kernel_rfl) (by exact HX2.out) (fun hHeld => ?_)
              have hne : Nonempty (Sub (fun w' => w'.heap[w.heap.size]? = some (.cells X 48 (0, 0)))) := ⟨⟨_, hHeld⟩⟩
              refine wpAnyH_take (i := 0) (v := .agg X) rfl (by kernel_rfl) (by kernel_rfl) (by kernel_rfl) (fun _ _ _ h => h) (yields_pal (by rfl) (.tmp 4) rfl w.heap.size rfl X hXs (fun _ h => h)) (by exact hHeld) ?_
              refine take_step (i := 1) rfl (by kernel_rfl) (by kernel_rfl) (by kernel_rfl) (fun _ _ _ _ h => h) (by exact hHeld) (fun K hK => ?_)
              go_simp
              refine hK _ ?_
              clear hK K
              refine wpAnyH_ready (rs := [2]) (by kernel_rfl) (by simp) ?_
              refine AllReadyH.cons rfl (fun K hK => ?_) AllReadyH.nil
              go_simp
              refine (Htk.out _ hL2.drew).mono ?_
              rintro _ w3 ⟨⟨o3, c3, rfl, hB3, hbq⟩, hL3, hO3⟩
              have HX3 : Hid (w3.heap[w.heap.size]? = some (.cells X 48 (0, 0))) := (hO3.block _ (by omega)).trans HX2.out
              have hc3 : w3.cell? ⟨b, o3, none⟩ = some (.int .u8 (PZ : Int)) := one_cell hB3
              have HS3 : Hid (Stand w3 g out) := by
                obtain ⟨cs, hC, h2, h3⟩ := HS2.out
                exact ⟨cs, (hO3.block _ (by omega)).trans hC, h2, h3⟩
              have Hb3 : Hid (Below q w w3) := (below_drew Hb2.out).trans (hO3.below (Nat.le_refl _))
              have HL3 : Hid (Lefts w3 q b r) := hL3
              clear HS2 HX2 Hb2 hL2 hB3 hO3 hL3
              refine hK.out _ _ (by exact HX3.out) (fun hHeld => ?_)
              clear hK K hne
              refine wpAnyH_strong (S' := fun w' => w'.cell? ⟨b, o3, none⟩ = some (.int .u8 (PZ : Int)) ∧ w'.heap[w.heap.size]? = some (.cells X 48 (0, 0))) (fun _ h => h.2) ?_
              replace hHeld : w3.cell? ⟨b, o3, none⟩ = some (.int .u8 (PZ : Int)) ∧ w3.heap[w.heap.size]? = some (.cells X 48 (0, 0)) := ⟨hc3, HX3.out⟩
              have hne : Nonempty (Sub (fun w' => w'.cell? ⟨b, o3, none⟩ = some (.int .u8 (PZ : Int)) ∧ w'.heap[w.heap.size]? = some (.cells X 48 (0, 0)))) := ⟨⟨_, hHeld⟩⟩
              have hcc : ∀ s : Sub (fun w' => w'.cell? ⟨b, o3, none⟩ = some (.int .u8 (PZ : Int)) ∧ w'.heap[w.heap.size]? = some (.cells X 48 (0, 0))), s.w.cell? ⟨b, o3, none⟩ = some (.int .u8 (PZ : Int)) := fun s => s.ok.1
              refine take_step (i := 3) rfl (by kernel_rfl) (by kernel_rfl) (by kernel_rfl) (fun _ _ _ _ h => h) (by exact hHeld) (fun K hK => ?_)
              go_simp
              refine hK _ ?_
              clear hK K
              refine take_step (i := 4) rfl (by kernel_rfl) (by kernel_rfl) (by kernel_rfl) (fun _ _ _ _ h => h) (by exact hHeld) (fun K hK => ?_)
              go_simp
              refine hK _ ?_
              clear hK K
              refine take_step (i := 5) rfl (by kernel_rfl) (by kernel_rfl) (by kernel_rfl) (fun _ _ _ _ h => h) (by exact hHeld) (fun K hK => ?_)
              go_simp
              refine hK _ ?_
              clear hK K
              refine wpAnyH_ready (rs := [6]) (by kernel_rfl) (by simp) ?_
              refine AllReadyH.cons rfl (fun K hK => ?_) AllReadyH.nil
              go_simp
              refine (kind_no X l PZ _ HX.out Hfar.out).mono ?_
              rintro _ w4 ⟨rfl, hb4⟩
              go_wp2
              exact ⟨rfl, HR.out _ (Hb3.out.trans (hb4.mono (by have := HL3.out.lt; omega)))⟩
            · have HE : Hid (runsD l 32768 bs = comb (out ++ List.replicate G (l.getD PZ 0)) (runsD l (Nd - G) r)) := by
                show _ = _
                rw [HC'.out, runsD_go l _ rest Hneed.out Hne.out HH.out hd (by omega), comb_comb, HG.out.1, Int.toNat_natCast, Int.toNat_natCast]
              have Hfar : Hid (PZ < l.length) := by show PZ < l.length; omega
              have HKx : Hid (0 ≤ l.getD PZ 0 ∧ l.getD PZ 0 ≤ 16) := hk _ (getD_mem Hfar.out)
              have HKc : Hid (∀ w, Calls Try.prog 49 #[.agg X, .int .i64 (PZ : Int)] w fun e w' => e = .returned (.int .i64 (l.getD PZ 0)) ∧ Below w.heap.size w w') := fun w => kind_yes X l PZ w HX.out hl Hfar.out ⟨HKx.out.1, by have := HKx.out.2; omega⟩
              obtain ⟨x, hx⟩ : ∃ x, x = l.getD PZ 0 := ⟨_, rfl⟩
              rw [← hx] at HE HKx HKc
              clear HC' hd HH hfar hx HX Hfar
              go_wp2_with fail
              refine wp_region_held_drew (S := fun w' => w'.heap[w.heap.size]? = some (.cells X 48 (0, 0))) (by kernel_rfl) (by exact HX2.out) (fun hHeld => ?_)
              have hne : Nonempty (Sub (fun w' => w'.heap[w.heap.size]? = some (.cells X 48 (0, 0)))) := ⟨⟨_, hHeld⟩⟩
              refine wpAnyH_take (i := 0) (v := .agg X) rfl (by kernel_rfl) (by kernel_rfl) (by kernel_rfl) (fun _ _ _ h => h) (yields_pal (by rfl) (.tmp 4) rfl w.heap.size rfl X hXs (fun _ h => h)) (by exact hHeld) ?_
              refine take_step (i := 1) rfl (by kernel_rfl) (by kernel_rfl) (by kernel_rfl) (fun _ _ _ _ h => h) (by exact hHeld) (fun K hK => ?_)
              go_simp
              refine hK _ ?_
              clear hK K
              refine wpAnyH_ready (rs := [2]) (by kernel_rfl) (by simp) ?_
              refine AllReadyH.cons rfl (fun K hK => ?_) AllReadyH.nil
              go_simp
              refine (Htk.out _ hL2.drew).mono ?_
              rintro _ w3 ⟨⟨o3, c3, rfl, hB3, hbq⟩, hL3, hO3⟩
              have HX3 : Hid (w3.heap[w.heap.size]? = some (.cells X 48 (0, 0))) := (hO3.block _ (by omega)).trans HX2.out
              have hc3 : w3.cell? ⟨b, o3, none⟩ = some (.int .u8 (PZ : Int)) := one_cell hB3
              have HS3 : Hid (Stand w3 g out) := by
                obtain ⟨cs, hC, h2, h3⟩ := HS2.out
                exact ⟨cs, (hO3.block _ (by omega)).trans hC, h2, h3⟩
              have Hb3 : Hid (Below q w w3) := (below_drew Hb2.out).trans (hO3.below (Nat.le_refl _))
              have HL3 : Hid (Lefts w3 q b r) := hL3
              clear HS2 HX2 Hb2 hL2 hB3 hO3 hL3
              refine hK.out _ _ (by exact HX3.out) (fun hHeld => ?_)
              clear hK K hne
              refine wpAnyH_strong (S' := fun w' => w'.cell? ⟨b, o3, none⟩ = some (.int .u8 (PZ : Int)) ∧ w'.heap[w.heap.size]? = some (.cells X 48 (0, 0))) (fun _ h => h.2) ?_
              replace hHeld : w3.cell? ⟨b, o3, none⟩ = some (.int .u8 (PZ : Int)) ∧ w3.heap[w.heap.size]? = some (.cells X 48 (0, 0)) := ⟨hc3, HX3.out⟩
              have hne : Nonempty (Sub (fun w' => w'.cell? ⟨b, o3, none⟩ = some (.int .u8 (PZ : Int)) ∧ w'.heap[w.heap.size]? = some (.cells X 48 (0, 0)))) := ⟨⟨_, hHeld⟩⟩
              have hcc : ∀ s : Sub (fun w' => w'.cell? ⟨b, o3, none⟩ = some (.int .u8 (PZ : Int)) ∧ w'.heap[w.heap.size]? = some (.cells X 48 (0, 0))), s.w.cell? ⟨b, o3, none⟩ = some (.int .u8 (PZ : Int)) := fun s => s.ok.1
              refine take_step (i := 3) rfl (by kernel_rfl) (by kernel_rfl) (by kernel_rfl) (fun _ _ _ _ h => h) (by exact hHeld) (fun K hK => ?_)
              go_simp
              refine hK _ ?_
              clear hK K
              refine take_step (i := 4) rfl (by kernel_rfl) (by kernel_rfl) (by kernel_rfl) (fun _ _ _ _ h => h) (by exact hHeld) (fun K hK => ?_)
              go_simp
              refine hK _ ?_
              clear hK K
              refine take_step (i := 5) rfl (by kernel_rfl) (by kernel_rfl) (by kernel_rfl) (fun _ _ _ _ h => h) (by exact hHeld) (fun K hK => ?_)
              go_simp
              refine hK _ ?_
              clear hK K
              refine wpAnyH_ready (rs := [6]) (by kernel_rfl) (by simp) ?_
              refine AllReadyH.cons rfl (fun K hK => ?_) AllReadyH.nil
              go_simp
              refine (HKc.out _).mono ?_
              rintro _ w4 ⟨rfl, hb4⟩
              have h3s := HL3.out.lt
              have h3g : g < w3.heap.size := by
                obtain ⟨cs, hC, _⟩ := HS3.out
                exact hC.lt
              have h3p : w.heap.size < w3.heap.size := (Array.getElem?_eq_some_iff.1 HX3.out).1
              have HX4 : Hid (w4.heap[w.heap.size]? = some (.cells X 48 (0, 0))) := (hb4.block _ h3p).trans HX3.out
              have HS4 : Hid (Stand w4 g out) := by
                obtain ⟨cs, hC, h2, h3⟩ := HS3.out
                exact ⟨cs, hC.below hb4 h3g, h2, h3⟩
              have Hb4 : Hid (Below q w w4) := Hb3.out.trans (hb4.mono (by omega))
              have HL4 : Hid (Lefts w4 q b r) := HL3.out.below hb4 h3s
              have hc4 : w4.cell? ⟨b, o3, none⟩ = some (.int .u8 (PZ : Int)) := by
                unfold World.cell? at hc3 ⊢
                rw [hb4.block b (by omega)]
                exact hc3
              clear HX3 HS3 Hb3 HL3 hb4 h3s h3g h3p hc3
              refine hK.out _ _ ⟨hc4, HX4.out⟩ (fun hHeld => ?_)
              clear hK K
              refine take_step (i := 7) rfl (by kernel_rfl) (by kernel_rfl) (by kernel_rfl) (fun _ _ _ _ h => h) (by exact hHeld) (fun K hK => ?_)
              go_simp
              refine hK _ ?_
              clear hK K hne hcc hHeld hc4
              refine wpAnyH_done (by kernel_rfl) ?_ _
              have HGN : Hid (1 ≤ G ∧ A + G ≤ 32768) := by have := HG.out; have := HNd.out; exact ⟨by omega, by omega⟩
              have HE2 : Hid (runsD l 32768 bs = comb (out ++ List.replicate G x) (runsD l (32768 - (out ++ List.replicate G x).length) r)) := by
                show _ = _
                rw [HE.out, List.length_append, List.length_replicate, HA.out, show 32768 - (A + G) = Nd - G by have := HNd.out; omega]
              have HAG : Hid ((out ++ List.replicate G x).length = A + G) := by show _ = _; rw [List.length_append, List.length_replicate, HA.out]
              have hA1 : (A : Int) ≤ 32767 := by omega
              have hG1 : (G : Int) ≤ 32768 := by have := HGN.out; omega
              clear HE HG HNd HKc Hneed Hne hNd hwr hp0 hp1 Htk HF HT HP hA hlt
              go_wp2
              go_loopw [24] (fun v24 wr => ∃ (N : Nat), N ≤ G ∧ v24 = .int .i64 (N : Int) ∧ Hid (Stand wr g (out ++ List.replicate N x)) ∧ Hid (Lefts wr q b r) ∧ Hid (wr.heap[w.heap.size]? = some (.cells X 48 (0, 0))) ∧ Hid (Below q w wr)) (fun v _ => G - (intOf v).toNat)
              case atStart => exact ⟨0, Nat.zero_le _, rfl, (show Stand _ _ _ by simpa using HS4.out), HL4, HX4, Hb4⟩
              case round =>
                obtain ⟨N, hN, rfl, HS5, HL5, HX5, Hb5⟩ := hrel
                clear HS4 HL4 HX4 Hb4
                by_cases hlt2 : N < G
                · have hlt2' : (N : Int) < G := by omega
                  obtain ⟨cs, hC, hcl, htk⟩ := HS5.out
                  have hlen : (out ++ List.replicate N x).length = A + N := by rw [List.length_append, List.length_replicate, HA.out]
                  rw [hlen] at htk
                  have HSet : Hid (Calls Try.prog 50 #[.pointer (some ⟨g, 0, none⟩), .int .i64 ((A : Int) + (N : Int)), .int .i64 x] wr fun e w' => e = .returned (.bool (okSet ((A : Int) + (N : Int)) x)) ∧ Stand w' g (out ++ List.replicate (N + 1) x) ∧ Only g wr w') := by
                    refine (set_c g cs ((A : Int) + (N : Int)) x wr hC hcl).mono ?_
                    rintro e w' ⟨h1, h2, h3⟩
                    refine ⟨h1, ?_, h3⟩
                    rw [List.replicate_succ', ← List.append_assoc]
                    exact Stand.set hcl hlen htk (by have := HGN.out; omega) h2 HKx.out
                  have hAN : (A : Int) + (N : Int) ≤ 32767 := by have := HGN.out; omega
                  clear hC hcl htk hlen HS5
                  go_wp2_with fail
                  refine HSet.out.mono ?_
                  clear HSet
                  rintro _ w6 ⟨rfl, hS6, hO6⟩
                  have HL6 : Hid (Lefts w6 q b r) := HL5.out.only hO6 hqg
                  have HX6 : Hid (w6.heap[w.heap.size]? = some (.cells X 48 (0, 0))) := (hO6.block _ (by omega)).trans HX5.out
                  have Hb6 : Hid (Below q w w6) := Hb5.out.trans (hO6.below (by omega))
                  have HS6 : Hid (Stand w6 g (out ++ List.replicate (N + 1) x)) := hS6
                  clear hS6 hO6 HL5 HX5 Hb5
                  go_wp2
                  go_roundw
                  case rel => exact ⟨N + 1, by omega, by go_num, HS6, HL6, HX6, Hb6⟩
                  case measure => simp [intOf]; omega
                · obtain rfl : N = G := by omega
                  have hlt2' : ¬ (N : Int) < N := by omega
                  have hAN : (A : Int) + (N : Int) ≤ 32768 := by have := HGN.out; omega
                  go_wp2
                  go_roundw
                  case rel => exact ⟨A + N, out ++ List.replicate N x, r, HGN.out.2, by go_num, HAG, HE2, HS5, HL5, HX5, Hb5⟩
                  case measure =>
                    have := HGN.out
                    simp [intOf]
                    omega
    · obtain rfl : A = 32768 := by omega
      have hlt' : ¬ (32768 : Int) < 32768 := by omega
      obtain ⟨cs, hC, hcl, htk⟩ := HS.out
      have R : Post (.returned (.tuple #[])) wr := by
        rw [HP.out]
        refine HT.out wr out rest HA.out ?_ ?_ HL.out Hb.out
        · rw [HC.out, HA.out]
        · rw [HA.out, List.take_of_length_le (by omega)] at htk
          rw [← htk]; exact hC
      clear HF HT HP HC HS HL HXr Hb HX hC hcl htk
      go_wp2
      go_end0
      exact R

theorem digsW_get (w : Nat) : ∀ (k : Nat) (v : Int) (j : Nat), j < k → (digsW w k v).getD j 0 = v / 2 ^ (w * j) % 2 ^ w
  | k + 1, v, 0, _ => by simp [digsW]
  | k + 1, v, j + 1, h => by
    have := digsW_get w k (v / 2 ^ w) j (by omega)
    rw [digsW, List.getD_cons_succ, this, Int.ediv_ediv_of_nonneg (Int.le_of_lt (Int.pow_pos (by omega))), ← Int.pow_add, show w + w * j = w * (j + 1) by rw [Nat.mul_add]; omega]
theorem spread_get (w m : Nat) (hm : 0 < m) (bs : List Int) (i : Nat) (h : i / m < bs.length) : (spread w m bs).getD i 0 = bs.getD (i / m) 0 / 2 ^ (w * (i % m)) % 2 ^ w := by
  have h1 := spread_byte w m bs (i / m) h
  have h2 := digsW_get w m bs[i / m] (i % m) (Nat.mod_lt _ hm)
  rw [List.getD_eq_getElem?_getD (l := bs), List.getElem?_eq_getElem h, Option.getD_some, ← h2, h1]
  simp only [List.getD_eq_getElem?_getD, List.getElem?_take, List.getElem?_drop]
  rw [if_pos (Nat.mod_lt _ hm), Nat.div_add_mod' i m]
theorem and_low (x : Int) (w : Nat) (h0 : 0 ≤ x) (h1 : x < 9223372036854775808) (hw : w < 63) : bits .and .i64 x (2 ^ w - 1) = x % 2 ^ w := by
  obtain ⟨X, rfl⟩ := Int.eq_ofNat_of_zero_le h0
  have hp : 0 < 2 ^ w := Nat.pow_pos (by omega)
  have hw2 : 2 ^ w ≤ 2 ^ 62 := Nat.pow_le_pow_right (by omega) (by omega)
  have e : ((2 : Int) ^ w - 1) = ((2 ^ w - 1 : Nat) : Int) := by
    rw [Int.ofNat_sub (by omega)]
    simp
  have hx : X &&& (2 ^ w - 1) < 2 ^ 62 := by rw [Nat.and_two_pow_sub_one_eq_mod]; exact Nat.lt_of_lt_of_le (Nat.mod_lt _ hp) hw2
  rw [e]
  show IntKind.i64.wrap ((BitVec.ofInt 64 (X : Int) &&& BitVec.ofInt 64 ((2 ^ w - 1 : Nat) : Int)).toNat : Int) = _
  rw [BitVec.toNat_and, ofInt_u64 X (by omega), ofInt_u64 _ (by omega)]
  have h3 : IntKind.i64.wrap ((X &&& (2 ^ w - 1) : Nat) : Int) = ((X &&& (2 ^ w - 1) : Nat) : Int) := by
    rw [IntKind.wrap_i64]; omega
  rw [h3, Nat.and_two_pow_sub_one_eq_mod]
  simp

/-- What the reading of cells answers: it gives up, or all cells stand there and the rest is left. -/
def ReadSay (D : Int × List Int) (q b g : Nat) (w : World) (e : Ending) (w' : World) : Prop :=
  Below q w w' ∧ ((∃ E : Int, E ≠ 0 ∧ D = (E, []) ∧ e = gives E) ∨ (∃ out rest, out.length = 32768 ∧ D = (if rest = [] then (0, out) else (2, [])) ∧ e = .returned (.tuple #[]) ∧ Blk w' g 61 out ∧ Lefts w' q b rest))
theorem RunsSay.read {l bs : List Int} {q b g : Nat} {w : World} {e : Ending} {w' : World} (h : RunsSay l bs q b g w e w') : ReadSay (runsD l 32768 bs) q b g w e w' := by
  obtain ⟨h1, h2 | ⟨out, rest, h2, h3, h4, h5, h6⟩⟩ := h
  · exact ⟨h1, Or.inl h2⟩
  · refine ⟨h1, Or.inr ⟨out, rest, h2, ?_, h4, h5, h6⟩⟩
    rw [h3, runsD_done]
    by_cases e : rest = []
    · rw [if_pos e, if_pos e]; unfold comb; rw [if_pos rfl, List.append_nil]
    · rw [if_neg e, if_neg e]; rfl
end Go.Proofs.Ytdkihhjhjfkjjaa
