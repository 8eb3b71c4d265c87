/-
  The program's disk: Write.
-/
import Derived.Test.YtdjhlpllffakpaaPkeep
set_option maxRecDepth 20000
namespace Go.Proofs.Ytdjhlpllffakpaa
open Go.RowKit Go.Maps

/-- A head's cells. -/
abbrev hd (mb ml : Option Nat) (n l : Int) (o : Bool) : Obj := .cells #[.map mb, .map ml, .int .i64 n, .int .i64 l, .bool o] 66 (0, 0)
theorem spend_c (g : Nat) (mb ml : Option Nat) (n l : Int) (o : Bool) (hn : 0 ≤ n ∧ n < 1000000) (hl : l ≤ 9223372036854775807) (w : World) (hh : w.heap[g]? = some (hd mb ml n l o)) :
    Calls Try.prog 29 #[.pointer (some ⟨g, 0, none⟩)] w fun e w' => e = .returned (.tuple #[]) ∧ Only g w w' ∧ w'.heap[g]? = some (hd mb ml (n + 1) (if 0 < l then l - 1 else l) (if 0 < l then decide (l - 1 = 0) else o)) := by
  have c2 : w.cell? ⟨g, 2, none⟩ = some (.int .i64 n) := by rw [cell_of_row w g 2 _ 66 (0, 0) hh]; rfl
  have f2 : w.frozen? ⟨g, 2, none⟩ = false := frozen_of_row w g 2 _ 66 hh
  have h2 := heap_setCell_same w g 2 _ 66 (.int .i64 (n + 1)) hh
  have c3 : (w.setCell ⟨g, 2, none⟩ (.int .i64 (n + 1))).cell? ⟨g, 3, none⟩ = some (.int .i64 l) := by rw [cell_of_row _ g 3 _ 66 (0, 0) h2]; rfl
  have f3 : (w.setCell ⟨g, 2, none⟩ (.int .i64 (n + 1))).frozen? ⟨g, 3, none⟩ = false := frozen_of_row _ g 3 _ 66 h2
  have hw1 : IntKind.i64.wrap (n + 1) = n + 1 := wrapI (by omega)
  obtain ⟨Post, hPost⟩ : ∃ Post : Ending → World → Prop, Post = fun e w' => e = .returned (.tuple #[]) ∧ Only g w w' ∧ w'.heap[g]? = some (hd mb ml (n + 1) (if 0 < l then l - 1 else l) (if 0 < l then decide (l - 1 = 0) else o)) := ⟨_, rfl⟩
  rw [← hPost]
  have HP : Hid (∀ w', (Only g w w' ∧ w'.heap[g]? = some (hd mb ml (n + 1) (if 0 < l then l - 1 else l) (if 0 < l then decide (l - 1 = 0) else o))) → Post (.returned (.tuple #[])) w') := fun w' h => by rw [hPost]; exact ⟨rfl, h⟩
  clear hPost
  by_cases h0 : 0 < l
  · have hw2 : IntKind.i64.wrap (l - 1) = l - 1 := wrapI (by omega)
    have h3 := heap_setCell_same _ g 3 _ 66 (.int .i64 (l - 1)) h2
    have c4 : ((w.setCell ⟨g, 2, none⟩ (.int .i64 (n + 1))).setCell ⟨g, 3, none⟩ (.int .i64 (l - 1))).cell? ⟨g, 3, none⟩ = some (.int .i64 (l - 1)) := by rw [cell_of_row _ g 3 _ 66 (0, 0) h3]; rfl
    have c5 : ((w.setCell ⟨g, 2, none⟩ (.int .i64 (n + 1))).setCell ⟨g, 3, none⟩ (.int .i64 (l - 1))).cell? ⟨g, 4, none⟩ = some (.bool o) := by rw [cell_of_row _ g 4 _ 66 (0, 0) h3]; rfl
    have f4 : ((w.setCell ⟨g, 2, none⟩ (.int .i64 (n + 1))).setCell ⟨g, 3, none⟩ (.int .i64 (l - 1))).frozen? ⟨g, 4, none⟩ = false := frozen_of_row _ g 4 _ 66 h3
    have HR : Hid (∀ b : Bool, b = decide (l - 1 = 0) → Only g w (((w.setCell ⟨g, 2, none⟩ (.int .i64 (n + 1))).setCell ⟨g, 3, none⟩ (.int .i64 (l - 1))).setCell ⟨g, 4, none⟩ (.bool b)) ∧ (((w.setCell ⟨g, 2, none⟩ (.int .i64 (n + 1))).setCell ⟨g, 3, none⟩ (.int .i64 (l - 1))).setCell ⟨g, 4, none⟩ (.bool b)).heap[g]? = some (hd mb ml (n + 1) (if 0 < l then l - 1 else l) (if 0 < l then decide (l - 1 = 0) else o))) := fun b hb => by
      refine ⟨(((Only.refl g w).set 2 _).set 3 _).set 4 _, ?_⟩
      rw [heap_setCell_same _ g 4 _ 66 (.bool b) h3, if_pos h0, if_pos h0, hb]
      rfl
    clear h2 h3 hh
    go_enter Try.func29, Try.ntmps29
    go_wp2
    all_goals
      go_end0
      exact HP.out _ (HR.out _ rfl)
  · have HR : Hid (Only g w (w.setCell ⟨g, 2, none⟩ (.int .i64 (n + 1))) ∧ (w.setCell ⟨g, 2, none⟩ (.int .i64 (n + 1))).heap[g]? = some (hd mb ml (n + 1) (if 0 < l then l - 1 else l) (if 0 < l then decide (l - 1 = 0) else o))) := by
      refine ⟨(Only.refl g w).set 2 _, ?_⟩
      rw [h2, if_neg h0, if_neg h0]
      rfl
    have R := HP.out _ HR.out
    clear h2 hh HP HR
    go_enter Try.func29, Try.ntmps29
    go_wp2
    go_end0
    exact R

/-- What the program's Write answers, and the disk behind it. -/
def PWriteSay (F : Nat → Prop) (g : Nat) (r : Int × St) (w : World) (e : Ending) (w' : World) : Prop :=
  e = .returned (.int .i64 r.1) ∧ PDisk (fun k => F k ∨ (w.heap.size ≤ k ∧ k < w'.heap.size)) w' g r.2 ∧ Chg F w w'
theorem PMaps.wide {F F' : Nat → Prop} {w w' : World} {g : Nat} {S S' : St} {mb ml : Option Nat} (h : PMaps F w g S mb ml) (hl : S.l = S'.l) (hn : S.writes = S'.writes) (hF : ∀ k, F k → F' k) (he : ∀ k, F k → k ≠ g → w'.heap[k]? = w.heap[k]?) : PMaps F' w' g S' mb ml := by
  rcases h.keep he with ⟨h1, h2, h3⟩ | ⟨b, l, Db, Dl, h1, h2, h3, h4, h5, h6, h7, h8⟩
  · exact Or.inl ⟨h1, h2, hl ▸ h3⟩
  · exact Or.inr ⟨b, l, Db, Dl, h1, h2, hn ▸ h3, hn ▸ h4, hl ▸ h5, hF _ h6, hF _ h7, h8⟩

set_option maxHeartbeats 1000000 in
theorem write_c (F : Nat → Prop) (g : Nat) (S : St) (f1 f2 f3 i : Int) (sa : Option Addr) (n sc : Nat) (bs : List Int) (hf : I64F (f1, f2, f3)) (w : World) (hD : PDisk F w g S) (hFl : ∀ k, F k → k < w.heap.size) (hX : Bytes w sa n bs) (hw : S.writes < 1000000) :
    Calls Try.prog 13 #[.pointer (some ⟨g, 0, none⟩), .agg #[.int .i64 f1, .int .i64 f2, .int .i64 f3], .int .i64 i, .slice sa n sc] w (PWriteSay F g (S.write (f1, f2, f3) i bs) w) := by
  obtain ⟨mb, ml, hD⟩ := hD
  obtain ⟨Post, hPost⟩ : ∃ Post, Post = PWriteSay F g (S.write (f1, f2, f3) i bs) w := ⟨_, rfl⟩
  rw [← hPost]
  have HP : Hid (Post = PWriteSay F g (S.write (f1, f2, f3) i bs) w) := hPost
  clear hPost
  have hbn := hX.n
  obtain ⟨hb0, x0, x1, x2⟩ := box_new w f1 f2 f3
  have HX0 : Hid (Bytes (w.alloc (.cells #[.int .i64 f1, .int .i64 f2, .int .i64 f3] 29)) sa n bs) := hX.later hb0
  have HD0 := hD.inside hb0
  have HB0 : Hid (Below w.heap.size w (w.alloc (.cells #[.int .i64 f1, .int .i64 f2, .int .i64 f3] 29))) := hb0
  have HD : Hid (PD F (w.alloc (.cells #[.int .i64 f1, .int .i64 f2, .int .i64 f3] 29)) g S mb ml) := HD0
  have hs0 : w.heap.size < (w.alloc (.cells #[.int .i64 f1, .int .i64 f2, .int .i64 f3] 29)).heap.size := by rw [World.size_alloc]; omega
  have HFl : Hid (∀ k, F k → k < w.heap.size) := hFl
  clear hb0 HD0 hD hX hFl
  go_enter Try.func13, Try.ntmps13
  go_upto_region 1 with fail
  generalize w.alloc (.cells #[.int .i64 f1, .int .i64 f2, .int .i64 f3] 29) = w0 at *
  have HF : Hid (∀ E : Int, (E, S) = S.write (f1, f2, f3) i bs → Post (.returned (.int .i64 E)) w0) := fun E h => by
    rw [HP.out, ← h]
    exact ⟨rfl, ⟨mb, ml, HD.out.more (fun k hk => Or.inl hk)⟩, Chg.of_below HB0.out⟩
  go_wp2_with fail
  refine (known_c i w0).mono ?_
  rintro e w1 ⟨rfl, rfl⟩
  by_cases hk : 0 ≤ i ∧ i < 4096
  · rw [decide_eq_true hk]
    by_cases h2 : n = 32
    · subst h2
      have hok : argOk i bs.length := ⟨hk.1, hk.2, hbn⟩
      go_wp2_with fail
      refine (on_c F g S w1 ⟨mb, ml, HD.out⟩).mono ?_
      rintro e w2 ⟨rfl, rfl⟩
      by_cases ho : S.out = true
      · have R := HF.out 8 (by rw [write_down _ _ _ _ hok ho])
        rw [ho]
        clear HP HD HB0 HF HX0
        go_wp2
        exact R
      · have ho' : S.out = false := by simpa using ho
        rw [ho']
        have HW : Hid (S.write (f1, f2, f3) i bs = (0, S.wrote (f1, f2, f3) i bs)) := write_ok _ _ _ _ hok ho'
        have Hgood : Hid (Good (put S.l (f1, f2, f3) i bs)) := HD.out.ok.put hok
        clear HF
        go_wp2_with fail
        refine (keep_c F g S f1 f2 f3 i sa sc bs hf hk w2 ⟨mb, ml, HD.out⟩ (fun k hk => by have := HFl.out k hk; omega) HX0.out hw).mono ?_
        rintro e w3 ⟨rfl, hC3, mb3, ml3, hh3, hM3⟩
        have HC3 : Hid (Chg F w2 w3) := hC3
        have HM3 : Hid (PMaps (fun k => F k ∨ (w2.heap.size ≤ k ∧ k < w3.heap.size)) w3 g { S with l := put S.l (f1, f2, f3) i bs, writes := S.writes + 1 } mb3 ml3) := hM3
        have HH3 : Hid (w3.heap[g]? = some (headOf mb3 ml3 S)) := hh3
        clear hC3 hM3 hh3
        go_wp2_with fail
        refine (spend_c g mb3 ml3 S.writes S.lf S.out ⟨HD.out.bds.2.2.1, hw⟩ (by unfold St.lf; have := HD.out.bds; split <;> omega) w3 HH3.out).mono ?_
        rintro e w4 ⟨rfl, hO4, hh4⟩
        have R : Post (.returned (.int .i64 0)) w4 := by
          rw [HP.out, HW.out]
          have hs3 := HC3.out.size
          refine ⟨rfl, ⟨mb3, ml3, ?_, ?_, Or.inl HD.out.inF, Hgood.out, ?_, ?_, ?_, ?_⟩, ?_⟩
          · rw [hh4]
            have harm := HD.out.arm
            unfold St.wrote St.lf hd
            by_cases ha : S.armed = true
            · have := harm ha ho'
              simp only [ha, if_true]
              rw [if_pos (by omega), if_pos (by omega)]
              have e : decide (S.left - 1 = 0) = (true && decide (S.left - 1 ≤ 0)) := by rw [Bool.true_and]; exact decide_eq_decide.2 (by omega)
              rw [e]
            · have ha' : S.armed = false := by simpa using ha
              simp [ha', ho']
          · exact HM3.out.wide rfl rfl (fun k hk => hk.imp id (fun h => ⟨by omega, by rw [hO4.size]; exact h.2⟩)) (fun k _ hk => hO4.block k hk)
          · intro b hb z hz
            rcases mem_put hb with h1 | rfl
            · exact HD.out.fit b h1 z hz
            · exact HX0.out.fit z hz
          · intro b hb
            rcases mem_put hb with h1 | rfl
            · exact HD.out.fil b h1
            · exact hf
          · intro ha hout
            have ha' : S.armed = true := ha
            have := HD.out.arm ha' ho'
            have e : (S.armed && decide (S.left - 1 ≤ 0)) = false := hout
            rw [ha', Bool.true_and] at e
            have := of_decide_eq_false e
            show 1 ≤ (if S.armed = true then S.left - 1 else S.left)
            rw [if_pos ha']
            omega
          · have hb := HD.out.bds
            have harm := HD.out.arm
            show _ ≤ (if S.armed = true then S.left - 1 else S.left) ∧ (if S.armed = true then S.left - 1 else S.left) ≤ _ ∧ 0 ≤ S.writes + 1 ∧ S.writes + 1 ≤ 1000000
            by_cases ha : S.armed = true
            · have := harm ha ho'
              rw [if_pos ha]
              omega
            · rw [if_neg ha]
              omega
          · exact (((Chg.of_below (F := F) HB0.out).trans HC3.out (fun j hj => Or.inl hj)).trans (G := fun k => k = g) ⟨hO4.os, hO4.tape, hO4.output, Nat.le_of_eq hO4.size.symm, fun k _ hk => hO4.block k hk⟩ (fun j hj => Or.inl (hj ▸ HD.out.inF)))
        clear HP HD HB0 HX0 HW HM3 HC3 HH3 hO4 hh4 Hgood
        go_wp2
        exact R
    · have R := HF.out 1 (by rw [write_arg _ _ _ _ (by unfold argOk; omega)])
      clear HP HD HB0 HF HX0
      go_wp2
      exact R
  · have R := HF.out 1 (by rw [write_arg _ _ _ _ (by unfold argOk; omega)])
    rw [decide_eq_false hk]
    clear HP HD HB0 HF HX0
    go_wp2
    exact R
end Go.Proofs.Ytdjhlpllffakpaa
