/-
  The landed spread: the cells that wait get their light, the brightest first.
-/
import Derived.Test.YtjeapaojbkicmabDoorQoff
set_option maxRecDepth 20000
namespace Go.Proofs.YtjeapaojbkicmabDoor
open C Go.RowKit L

/-- Between two rounds of the list of a level. -/
def Sq4 (e : SqE) (s : L.Sys) (level k n : Nat) (al : Option Addr) (cl : Nat) (W : World) : Prop := ∃ ls wait av cv, Sq e s level k (fun _ _ => True) (1950000 + 6 * sumL ls) ls wait av cv W ∧ (wait level).length = n ∧ av level = al ∧ cv level = cl
/-- Between two levels. -/
def Sq2 (e : SqE) (s : L.Sys) (level : Nat) (W : World) : Prop := ∃ ls wait av cv, Sq e s level 0 (fun _ _ => True) (1950000 + 6 * sumL ls) ls wait av cv W
theorem own_cell {w : World} {lo c : Nat} {a : Option Addr} {xs : List Int} (h : OwnI w lo a c xs) (hn : 0 < xs.length) : ∃ g, a = some ⟨g, 0, none⟩ ∧ ∀ k, k < xs.length → w.cell? ⟨g, k, none⟩ = some (.int .i64 (xs.getD k 0)) := by
  have h' := h
  obtain ⟨g, rfl⟩ : ∃ g, a = some ⟨g, 0, none⟩ := by
    rcases h.2 with ⟨_, h1⟩ | ⟨g, cap, cur, hv, _⟩
    · omega
    · simp only [Value.slice.injEq] at hv
      exact ⟨g, hv.1⟩
  refine ⟨g, rfl, fun k hk => ?_⟩
  unfold OwnI at h'
  rw [ownsRow_cell h' k (by omega)]
  unfold ivs
  rw [List.getElem?_map, List.getElem?_eq_getElem hk, List.getD_eq_getElem?_getD, List.getElem?_eq_getElem hk]
  rfl
theorem Sq.total {e : SqE} {s : L.Sys} {level k c : Nat} {D : Nat → Nat → Prop} {ls : List Int} {wait : Nat → List Nat} {av : Nat → Option Addr} {cv : Nat → Nat} {w : World} (h : Sq e s level k D c ls wait av cv w) : sumL ls ≤ 4875000 := by
  have h1 := sum_le ls h.lv.mem
  have h2 := h.len
  omega
set_option maxRecDepth 1000000 in
set_option maxHeartbeats 4000000 in
theorem spread_c (e : SqE) (s : L.Sys) (o : SqO e s) (w : World) (hS : Sq2 e s 15 w) :
    Calls Tryd.prog 31 #[.pointer (some ⟨e.gf, 0, none⟩)] w fun en w' => en = .returned (.tuple #[]) ∧ Sq2 e s 0 w' := by
  obtain ⟨Post, hPost⟩ : ∃ Post : Ending → World → Prop, Post = fun en w' => en = .returned (.tuple #[]) ∧ Sq2 e s 0 w' := ⟨_, rfl⟩
  rw [← hPost]
  have HP : Hid (∀ w', Sq2 e s 0 w' → Post (.returned (.tuple #[])) w') := fun w' h => by rw [hPost]; exact ⟨rfl, h⟩
  clear hPost
  have H0 : Hid (Sq2 e s 15 w) := hS
  have HO : Hid (SqO e s) := o
  clear hS o
  go_enter Tryd.func31, Tryd.ntmps31
  go_wp2
  go_loopw [2] (fun vx wr => ∃ level : Nat, level ≤ 15 ∧ vx = .int .i64 (level : Int) ∧ Hid (Sq2 e s level wr)) (fun vx _ => (intOf vx).toNat)
  case atStart => exact ⟨15, by omega, rfl, H0⟩
  case round =>
    clear H0
    obtain ⟨level, hlv, rfl, HS⟩ := hrel
    by_cases hl : 0 < level
    case neg =>
      have hl' : ¬ 0 < (level : Int) := by omega
      have R := HP.out wr (by obtain rfl : level = 0 := by omega
                              exact HS.out)
      clear HS HO HP
      go_wp2
      exact bodyPost_end (results_none rfl _ _ _) rfl R
    have hl' : 0 < (level : Int) := by omega
    have hl15 : (level : Int) < 16 := by omega
    clear HP
    have wl : IntKind.i64.wrap ((level : Int) - 1) = ((level - 1 : Nat) : Int) := by rw [IntKind.wrap_i64]; omega
    have wb : IntKind.u8.wrap (level : Int) = (level : Int) := by rw [IntKind.wrap_u8]; omega
    obtain ⟨ls, wait, av, cv, hS⟩ := HS.out
    clear HS
    have y0 := hS.wf.out level (by omega)
    obtain ⟨n, hn⟩ : ∃ n, (wait level).length = n := ⟨_, rfl⟩
    have hw : (wI wait level).length = n := by unfold wI; rw [List.length_map]; exact hn
    have hnb : n ≤ 40000000 := by have := hS.sz level; have := hS.total; omega
    have H4 : Hid (Sq4 e s level 0 n (av level) (cv level) wr) := ⟨ls, wait, av, cv, hS, hn, rfl, rfl⟩
    have ya : wr.cell? ⟨e.gf, 2 + level, none⟩ = some (.slice (av level) n (cv level)) := by rw [y0]; unfold slW; rw [hw]
    obtain ⟨wq, hwq⟩ : ∃ wq, wq = wr := ⟨_, rfl⟩
    subst hwq
    generalize av level = al at *
    generalize cv level = cl at *
    clear y0 hw hS hn
    go_wp2
    refine wp_scope_straight ?_
    go_wp2_with fail
    refine wp_label ?_
    go_wp2
    clear ya
    go_loopw [16] (fun vx wr => ∃ k : Nat, k ≤ n ∧ vx = .int .i64 (k : Int) ∧ Hid (Sq4 e s level k n al cl wr)) (fun vx _ => n - (intOf vx).toNat)
    case atStart => exact ⟨0, by omega, rfl, H4⟩
    case round =>
      clear H4
      obtain ⟨k, hk, rfl, HS⟩ := hrel
      by_cases hkn : k < n
      case neg =>
        have hk' : ¬ (k : Int) < (n : Int) := by omega
        have HE : Hid (Sq2 e s (level - 1) wr) := by
          obtain ⟨ls, wait, av, cv, hS, h1, h2, h3⟩ := HS.out
          obtain ⟨l0, hl0⟩ : ∃ l0, level = l0 + 1 := ⟨level - 1, by omega⟩
          subst hl0
          exact ⟨ls, wait, av, cv, hS.as (hS.bq.down (by omega)) (Nat.le_refl _)⟩
        clear HS HO
        go_wp2
        exact ⟨⟨level - 1, by omega, by simp, HE⟩, by simp [intOf]; omega⟩
      have hk' : (k : Int) < (n : Int) := by omega
      have wk : IntKind.i64.wrap ((k : Int) + 1) = ((k + 1 : Nat) : Int) := by rw [IntKind.wrap_i64]; omega
      obtain ⟨ls, wait, av, cv, hS, h1, h2, h3⟩ := HS.out
      clear HS
      have hwl : (wI wait level).length = n := by unfold wI; rw [List.length_map]; exact h1
      obtain ⟨g, hg, hc⟩ := own_cell (hS.wf.own level (by omega)) (by omega)
      have hal : al = some ⟨g, 0, none⟩ := h2.symm.trans hg
      subst hal
      have hck := hc k (by omega)
      obtain ⟨m, hm⟩ : ∃ m, (wait level)[k]? = some m := ⟨_, List.getElem?_eq_getElem (by omega)⟩
      have hgm : (wI wait level).getD k 0 = (m : Int) := by
        unfold wI
        rw [List.getD_eq_getElem?_getD, List.getElem?_map, hm]
        rfl
      rw [hgm] at hck
      have hmem : m ∈ wait level := List.mem_of_getElem? hm
      have hlit := hS.bq.wlit level m hmem
      have hin : Inn m := HO.out.inn m level hlit.2 (by omega)
      have mb : m < 325000 := by unfold Inn at hin; omega
      have mb' : (m : Int) < 325000 := by omega
      have q1 := hS.wf.p1
      have ca := hS.pl.cell (k := m) (by rw [hS.len]; exact mb)
      have fa := hS.pl.free m
      have ba := hS.lv m
      obtain ⟨A, hA⟩ : ∃ x, ls.getD m 0 = x := ⟨_, rfl⟩
      have HA : Hid (ls.getD m 0 = A) := hA
      rw [hA] at ca ba
      obtain ⟨a0, a1⟩ := ba
      have HSq : Hid (Sq e s level k (fun _ _ => True) (1950000 + 6 * sumL ls) ls wait av cv wr ∧ (wait level).length = n ∧ av level = some ⟨g, 0, none⟩ ∧ cv level = cl ∧ (wait level)[k]? = some m) := ⟨hS, h1, h2, h3, hm⟩
      have Hin : Hid (Inn m) := hin
      clear hS h1 h2 h3 hm hwl hg hc hgm hmem hlit hin hA
      by_cases hge : (level : Int) ≤ A
      · have HE : Hid (Sq4 e s level (k + 1) n (some ⟨g, 0, none⟩) cl wr) := by
          obtain ⟨h1, h2, h3, h4, h5⟩ := HSq.out
          exact ⟨ls, wait, av, cv, h1.as (h1.bq.pass h5 (by unfold li; rw [HA.out]; omega)) (Nat.le_refl _), h2, h3, h4⟩
        clear HSq HO HA Hin fa mb
        go_wp2
        exact ⟨⟨k + 1, by omega, rfl, HE⟩, by simp [intOf]; omega⟩
      have HS3 : Hid (SqX e s level (k + 1) (1950000 + 6 * sumL ls) m 0 (fun a _ => a ≠ m) (ls.set m (level : Int)) (wait level) (some ⟨g, 0, none⟩) cl (wr.setCell ⟨e.gl, m, none⟩ (.int .u8 (level : Int)))) := by
        obtain ⟨h1, h2, h3, h4, h5⟩ := HSq.out
        have h6 := h1.light mb h5 (by unfold li; rw [HA.out]; omega) hlv HO.out.n1
        refine ⟨wait, av, cv, h6.as (h6.bq.mono fun a b hd _ _ => .inl ?_) (Nat.le_refl _), rfl, h3, h4⟩
        rcases hd with hd | ⟨_, j, hj, _⟩
        · exact hd
        · omega
      have HB : Hid (1950000 + 6 * sumL ls + 6 ≤ 1950000 + 6 * sumL (ls.set m (level : Int)) ∧ 1950000 + 6 * sumL ls + 6 ≤ 90000000 ∧ li (ls.set m (level : Int)) m ≤ level ∧ (wait level).length = n) := by
        obtain ⟨h1, h2, h3, h4, h5⟩ := HSq.out
        have h6 := h1.total
        have h7 := sum_set ls m (level : Int) (by rw [h1.len]; exact mb) (by rw [HA.out]; omega) (h1.lv m).1
        refine ⟨by omega, by omega, ?_, h2⟩
        rw [li_set (by rw [h1.len]; exact mb), upd_same]
        exact Nat.le_refl _
      clear HSq HA
      have hoff := offer_c e s HO.out level (k + 1) (1950000 + 6 * sumL ls) m (fun a _ => a ≠ m) (ls.set m (level : Int)) (wait level) (some ⟨g, 0, none⟩) cl _ HS3.out Hin.out HB.out.2.2.1 HB.out.2.1
      clear HS3 Hin mb
      go_wp2_with fail
      refine hoff.mono ?_
      clear hoff
      rintro _ w2 ⟨rfl, hX⟩
      have HE : Hid (Sq4 e s level (k + 1) n (some ⟨g, 0, none⟩) cl w2) := by
        obtain ⟨wait', av', cv', h1, h2, h3, h4⟩ := hX
        have h5 := dx_end HO.out h1
        refine ⟨_, wait', av', cv', h5.as (h5.bq.mono fun a b _ _ _ => .inl ?_) HB.out.1, by rw [h2]; exact HB.out.2.2.2, h3, h4⟩
        by_cases q : a = m
        · exact .inr q
        · exact .inl q
      clear hX HB HO
      go_wp2
      exact ⟨⟨k + 1, by omega, by simp, HE⟩, by simp [intOf]; omega⟩
end Go.Proofs.YtjeapaojbkicmabDoor
