/-
  The program's region: room, Free.
-/
import Derived.Test.YtdjhlpllffakpaaNlive
import Derived.Test.YtdjhlpllffakpaaQtake
set_option maxRecDepth 20000
namespace Go.Proofs.Ytdjhlpllffakpaa
open Go.RowKit

/-- Spans that are marked one after the other; what may not be is left. -/
def marks : List Bool → List Sp → List Bool
  | T, [] => T
  | T, s :: r => marks (Q.doS 2 T (s.1 : Int) (s.2 : Int) false true) r
theorem marks_snoc (T : List Bool) (l : List Sp) (s : Sp) : marks T (l ++ [s]) = Q.doS 2 (marks T l) (s.1 : Int) (s.2 : Int) false true := by
  induction l generalizing T with
  | nil => rfl
  | cons a r ih => exact ih _
theorem chgQ_below {F : Nat → Prop} {w w' : World} {B : Nat} (h : Q.Chg F w w') (hF : ∀ k, F k → B ≤ k) (hB : B ≤ w.heap.size) : Below B w w' :=
  ⟨h.os, h.tape, h.output, h.size, fun k hk => h.block k (by omega) (fun hf => by have := hF k hf; omega)⟩
set_option maxHeartbeats 1000000 in
theorem room_c (g : Nat) (x z : Int) (l : List Sm) (w : World) (H : RB w g x z l) (hI : ∀ s ∈ l, s.f < 1000 ∧ s.m < 1000) :
    Calls Try.prog 39 #[.pointer (some ⟨g, 0, none⟩)] w fun e w' => Below w.heap.size w w' ∧ ∃ sg tb, e = .returned (.pointer (some ⟨sg, 0, none⟩)) ∧ w.heap.size ≤ sg ∧ w.heap.size ≤ tb ∧ Q.PS w' sg tb 2 (marks (List.replicate 40 false) (l.map Sm.sp)) := by
  obtain ⟨Post, hPost⟩ : ∃ Post : Ending → World → Prop, Post = fun e w' => Below w.heap.size w w' ∧ ∃ sg tb, e = .returned (.pointer (some ⟨sg, 0, none⟩)) ∧ w.heap.size ≤ sg ∧ w.heap.size ≤ tb ∧ Q.PS w' sg tb 2 (marks (List.replicate 40 false) (l.map Sm.sp)) := ⟨_, rfl⟩
  rw [← hPost]
  have HP : Hid (∀ w' sg tb, w.heap.size ≤ sg → w.heap.size ≤ tb → Q.PS w' sg tb 2 (marks (List.replicate 40 false) (l.map Sm.sp)) → Below w.heap.size w w' → Post (.returned (.pointer (some ⟨sg, 0, none⟩))) w') := fun w' sg tb h1 h2 h3 h4 => by rw [hPost]; exact ⟨h4, sg, tb, rfl, h1, h2, h3⟩
  clear hPost
  have HB : Hid (RB w g x z l) := H
  have HI : Hid (∀ s ∈ l, s.f < 1000 ∧ s.m < 1000) := hI
  have hgl := H.lt
  obtain ⟨Z, hZ⟩ : ∃ Z, Z = smvs l := ⟨_, rfl⟩
  have HZ : Hid (Z = smvs l) := hZ
  clear H hZ hI
  go_enter Try.func39, Try.ntmps39
  go_wp2_with fail
  refine (Q.new_c 40 2 ⟨by decide, by decide⟩ ⟨by decide, by decide⟩ w).mono ?_
  rintro _ w1 ⟨hb1, ⟨h1, _⟩ | ⟨_, sg, tb, hsg, htb, rfl, hS⟩⟩
  · exact absurd h1 (by unfold Q.badNew; omega)
  have Hb1 : Hid (Below w.heap.size w w1) := hb1
  have HS : Hid (Q.PS w1 sg tb 2 (marks (List.replicate 40 false) [])) := hS
  have Hsg : Hid (w.heap.size ≤ sg ∧ w.heap.size ≤ tb) := ⟨hsg, htb⟩
  have HB1 : Hid (RB w1 g x z l) := HB.out.on hb1
  clear hb1 hS hsg htb HB
  go_wp2_with (refine wpList_load_mid rfl 71 (.tmp 13) rfl g 2 rfl Z _ (by rw [HZ.out]; exact HB1.out.range) Try.underlying71 rfl (by rw [HZ.out, smvs_len, HB1.out.n]; exact size71) ?_)
  go_loopw [15] (fun v wr => ∃ (j : Nat), j ≤ 16 ∧ v = .int .i64 (j : Int) ∧ Hid (Q.PS wr sg tb 2 (marks (List.replicate 40 false) ((l.map Sm.sp).take j))) ∧ Hid (Below w.heap.size w wr)) (fun v _ => 16 - (intOf v).toNat)
  case atStart => exact ⟨0, Nat.zero_le _, by go_num, HS.out, Hb1.out⟩
  case round =>
    clear HS Hb1
    obtain ⟨j, hj, rfl, HS, HBe⟩ := hrel
    have hn := HB1.out.n
    by_cases hlt : j < 16
    · have hlt' : (j : Int) < 16 := by omega
      have hjl : j < l.length := by omega
      have hix := ix71 j hjl hn
      rw [← HZ.out] at hix
      have HN : Hid (marks (List.replicate 40 false) ((l.map Sm.sp).take (j + 1)) = Q.doS 2 (marks (List.replicate 40 false) ((l.map Sm.sp).take j)) (l[j].f : Int) (l[j].m : Int) false true) := by
        show _ = _
        rw [List.take_add_one, List.getElem?_map, List.getElem?_eq_getElem hjl]
        exact marks_snoc _ _ _
      obtain ⟨hF, hM⟩ := HI.out l[j] (List.getElem_mem _)
      generalize l[j].f = F at *
      generalize l[j].m = M at *
      generalize l[j].a = A at *
      generalize l[j].b.length = N at *
      generalize l[j].c = C at *
      have hb2 : Below wr.heap.size wr (wr.alloc (.cells #[.int .i64 (F : Int), .int .i64 (M : Int), .slice A N C] 70)) := (Below.refl _ _).alloc (Nat.le_refl _) _
      have HS2 : Hid (Q.PS (wr.alloc (.cells #[.int .i64 (F : Int), .int .i64 (M : Int), .slice A N C] 70)) sg tb 2 (marks (List.replicate 40 false) ((l.map Sm.sp).take j))) := HS.out.on hb2
      have Hb2 : Hid (Below w.heap.size w (wr.alloc (.cells #[.int .i64 (F : Int), .int .i64 (M : Int), .slice A N C] 70))) := HBe.out.alloc HBe.out.size _
      clear hb2 HS HBe
      generalize marks (List.replicate 40 false) ((l.map Sm.sp).take j) = T at *
      go_wp2_with fail
      generalize wr.alloc (.cells #[.int .i64 (F : Int), .int .i64 (M : Int), .slice A N C] 70) = w2 at *
      refine (Q.mark_c sg tb 2 T (F : Int) (M : Int) ⟨by omega, by omega⟩ ⟨by omega, by omega⟩ w2 HS2.out).mono ?_
      rintro _ w3 ⟨rfl, hS3, hC3⟩
      have HS3 : Hid (Q.PS w3 sg tb 2 (marks (List.replicate 40 false) ((l.map Sm.sp).take (j + 1)))) := by show Q.PS _ _ _ _ _; rw [HN.out]; exact hS3
      have Hb3 : Hid (Below w.heap.size w w3) := Hb2.out.trans (chgQ_below hC3 (fun k hk => by rw [hk]; exact Hsg.out.2) Hb2.out.size)
      clear hS3 hC3 HS2 Hb2 HN HP
      generalize Q.erS 2 T (F : Int) (M : Int) false = ee at *
      go_wp2
      go_roundw
      case rel => exact ⟨j + 1, by omega, by go_num, HS3, Hb3⟩
      case measure => simp [intOf]; omega
    · obtain rfl : j = 16 := by omega
      have hge : ¬ ((16 : Nat) : Int) < 16 := by omega
      have R := HP.out wr sg tb Hsg.out.1 Hsg.out.2 (by have := HS.out; rwa [List.take_of_length_le (by rw [List.length_map]; omega)] at this) HBe.out
      clear HP HS HBe
      go_wp2
      exact R
set_option maxHeartbeats 1000000 in
theorem free_c (g : Nat) (x z : Int) (l : List Sm) (w : World) (H : RB w g x z l) (hI : ∀ s ∈ l, s.f < 1000 ∧ s.m < 1000) :
    Calls Try.prog 23 #[.pointer (some ⟨g, 0, none⟩)] w fun e w' => Below w.heap.size w w' ∧ ∃ a c, e = .returned (.slice a (spansS 2 (marks (List.replicate 40 false) (l.map Sm.sp))).length c) ∧ Q.OwnSp w' w.heap.size a c (spansS 2 (marks (List.replicate 40 false) (l.map Sm.sp))) := by
  obtain ⟨L, hL⟩ : ∃ L, L = spansS 2 (marks (List.replicate 40 false) (l.map Sm.sp)) := ⟨_, rfl⟩
  rw [← hL]
  obtain ⟨Post, hPost⟩ : ∃ Post : Ending → World → Prop, Post = fun e w' => Below w.heap.size w w' ∧ ∃ a c, e = .returned (.slice a L.length c) ∧ Q.OwnSp w' w.heap.size a c L := ⟨_, rfl⟩
  rw [← hPost]
  have HP : Hid (∀ w' a c, Q.OwnSp w' w.heap.size a c L → Below w.heap.size w w' → Post (.returned (.slice a L.length c)) w') := fun w' a c h1 h2 => by rw [hPost]; exact ⟨h2, a, c, rfl, h1⟩
  clear hPost
  have HB : Hid (RB w g x z l) := H
  have HI : Hid (∀ s ∈ l, s.f < 1000 ∧ s.m < 1000) := hI
  have HL : Hid (L = spansS 2 (marks (List.replicate 40 false) (l.map Sm.sp))) := hL
  clear H hI hL
  go_enter Try.func23, Try.ntmps23
  go_wp2_with fail
  refine (room_c g x z l w HB.out HI.out).mono ?_
  rintro _ w1 ⟨hb1, sg, tb, rfl, hsg, htb, hS⟩
  have HS : Hid (Q.PS w1 sg tb 2 (marks (List.replicate 40 false) (l.map Sm.sp))) := hS
  have Hb1 : Hid (Below w.heap.size w w1) := hb1
  clear hS hb1
  go_wp2_with fail
  refine (Q.spans_c sg tb 2 _ w1 HS.out).mono ?_
  rintro _ w2 ⟨a, c, rfl, hb2, hO⟩
  rw [← HL.out] at hO ⊢
  have hb3 := Hb1.out.trans (hb2.mono Hb1.out.size)
  have R := HP.out w2 a c (by
    refine ⟨hO.1, ?_⟩
    rcases hO.2 with h | ⟨b, cap, cur, hv, hb, r⟩
    · exact .inl h
    · exact .inr ⟨b, cap, cur, hv, Nat.le_trans Hb1.out.size hb, r⟩) hb3
  clear HP hO hb3 hb2 Hb1 HS HL
  generalize L.length = n at *
  go_wp2
  exact R
end Go.Proofs.Ytdjhlpllffakpaa
