/-
  The landed space is one: an SSpec.
-/
import Derived.Test.YtffhnecdmdmmkaaPtake
import Derived.Test.YtffhnecdmdmmkaaSspec
set_option maxRecDepth 20000
namespace Go.Proofs.Ytffhnecdmdmmkaa
open Go.RowKit

theorem Chg.wide {F G : Nat → Prop} {w w' : World} (h : Chg F w w') (hF : ∀ k, F k → G k) : Chg G w w' := ⟨h.os, h.tape, h.output, h.size, fun k hk hg => h.block k hk (fun hf => hg (hF k hf))⟩
/-- A space within F. -/
def SpP (F : Nat → Prop) (w : World) (g h : Nat) (T : List Bool) : Prop := ∃ tb, PS w g tb h T ∧ F g ∧ F tb
def sspec : SSpec where
  SP := SpP
  sp_keep := by
    rintro F w w' g h T ⟨tb, hS, hg, ht⟩ hk
    exact ⟨tb, hS.keep (hk g hg) (hk tb ht), hg, ht⟩
  sp_more := by
    rintro F F' w g h T ⟨tb, hS, hg, ht⟩ hk
    exact ⟨tb, hS, hk g hg, hk tb ht⟩
  sp_le := by
    rintro F w g h T ⟨tb, hS, hg, ht⟩
    exact ⟨hS.le, hS.few⟩
  new_ := fun n h w hn hh => by
    refine (new_c n h hn hh w).mono ?_
    rintro e w' ⟨hb, ⟨h1, h2⟩ | ⟨h1, g, tb, hg, ht, h2, hS⟩⟩
    · exact ⟨hb, .inl ⟨h1, h2⟩⟩
    · exact ⟨hb, .inr ⟨h1, g, h2, tb, hS, ⟨hg, (Array.getElem?_eq_some_iff.1 hS.head).1⟩, ⟨ht, (Array.getElem?_eq_some_iff.1 hS.row).1⟩⟩⟩
  mark_ := fun F g h T f m w hf hm hS _ => by
    obtain ⟨tb, hS, hg, ht⟩ := hS
    refine (mark_c g tb h T f m hf hm w hS).mono ?_
    rintro e w' ⟨he, hS', hC⟩
    exact ⟨he, hC.wide (fun k hk => by rw [hk]; exact ht), tb, hS', .inl hg, .inl ht⟩
  free_ := fun F g h T f m w hf hm hS _ => by
    obtain ⟨tb, hS, hg, ht⟩ := hS
    refine (free_c g tb h T f m hf hm w hS).mono ?_
    rintro e w' ⟨he, hS', hC⟩
    exact ⟨he, hC.wide (fun k hk => by rw [hk]; exact ht), tb, hS', .inl hg, .inl ht⟩
  take_ := fun F g h T n w hn hS _ => by
    obtain ⟨tb, hS, hg, ht⟩ := hS
    refine (take_c g tb h T n hn w hS).mono ?_
    rintro e w' ⟨he, hS', hC⟩
    exact ⟨he, hC.wide (fun k hk => by rw [hk]; exact ht), tb, hS', .inl hg, .inl ht⟩
  room_ := fun F g h T w hS _ => by
    obtain ⟨tb, hS, hg, ht⟩ := hS
    refine (room_c g tb h T w hS).mono ?_
    rintro e w' ⟨he, hb⟩
    exact ⟨he, Chg.of_below hb, tb, hS.on hb, .inl hg, .inl ht⟩
  large_ := fun F g h T w hS _ => by
    obtain ⟨tb, hS, hg, ht⟩ := hS
    refine (large_c g tb h T w hS).mono ?_
    rintro e w' ⟨he, hb⟩
    exact ⟨he, Chg.of_below hb, tb, hS.on hb, .inl hg, .inl ht⟩
  spans_ := fun F g h T w hS hF => by
    obtain ⟨tb, hS, hg, ht⟩ := hS
    refine (spans_c g tb h T w hS).mono ?_
    rintro e w' ⟨a, c, he, hb, hO⟩
    exact ⟨F, a, c, he, Chg.of_below hb, ⟨tb, hS.on hb, hg, ht⟩, fun k hk => .inl hk, fun gb hgb hk => by
      have := (World.ownsRow.lt hO gb (by rw [hgb]; rfl)).1
      have := hF gb hk
      omega, hO⟩
end Go.Proofs.Ytffhnecdmdmmkaa
