/-
  The landed build: whether lists are nine chunks' ground.
-/
import Derived.Test.YtbdjgaagafnfaaaBheld
import Derived.Test.YtbdjgaagafnfaaaHsince
import Derived.Test.YtbdjgaagafnfaaaPsit
set_option maxRecDepth 20000
namespace Go.Proofs.Ytbdjgaagafnfaaa
open C Go.RowKit Go.Shelf

theorem run_store_fn {P : Program} {w : World} {a : Addr} {m : Mode} (f : Fn) (x y : Array Value) : (store a (.func f x y) m).run P w = stored P w a (.func f x y) m := run_store P w a _ m rfl
attribute [local go_sem] run_store_fn

def wrongV (m v : Int) : Bool := decide (v < 0 ∨ m ≤ v)
theorem wrong_c (m v : Int) (b : Nat) (w : World) (hb : w.cell? ⟨b, 0, none⟩ = some (.int .i64 m)) : Calls Try.prog 35 #[.int .i64 v, .pointer (some ⟨b, 0, none⟩)] w fun e w' => e = .returned (.bool (wrongV m v)) ∧ w' = w := by
  by_cases h1 : v < 0
  · have e : wrongV m v = true := decide_eq_true (.inl h1)
    rw [e]
    clear e
    go_enter Try.func35, Try.ntmps35
    go_wp2
    go_ret
    exact ⟨rfl, rfl⟩
  · by_cases h2 : m ≤ v
    · have e : wrongV m v = true := decide_eq_true (.inr h2)
      rw [e]
      clear e
      go_enter Try.func35, Try.ntmps35
      go_wp2
      go_ret
      exact ⟨rfl, rfl⟩
    · have e : wrongV m v = false := decide_eq_false (by omega)
      rw [e]
      have h2' : decide (m ≤ v) = false := decide_eq_false h2
      clear e
      go_enter Try.func35, Try.ntmps35
      go_wp2
      go_ret
      exact ⟨rfl, rfl⟩
/-- What a search answers: the first place, or -1. -/
def IdxSay (n : Nat) (p : Nat → Bool) (w : World) (e : Ending) (w' : World) : Prop := ∃ r : Int, e = .returned (.int .i64 r) ∧ w' = w ∧ ((r = -1 ∧ ∀ k, k < n → p k = false) ∨ (0 ≤ r ∧ ∃ k, k < n ∧ p k = true))
def ConSay (n : Nat) (p : Nat → Bool) (w : World) (e : Ending) (w' : World) : Prop := ∃ r : Bool, e = .returned (.bool r) ∧ w' = w ∧ (r = true ↔ ∃ k, k < n ∧ p k = true)
theorem con_of {n : Nat} {p : Nat → Bool} {r : Int} (h : (r = -1 ∧ ∀ k, k < n → p k = false) ∨ (0 ≤ r ∧ ∃ k, k < n ∧ p k = true)) : decide (0 ≤ r) = true ↔ ∃ k, k < n ∧ p k = true := by
  rw [decide_eq_true_eq]
  rcases h with ⟨rfl, h⟩ | ⟨h1, h2⟩
  · exact ⟨fun q => by omega, fun ⟨k, hk, e⟩ => by rw [h k hk] at e; cases e⟩
  · exact ⟨fun _ => h2, fun _ => h1⟩
set_option maxHeartbeats 1000000 in
theorem idx_int (a : Option Addr) (n c : Nat) (b : Nat) (p : Nat → Bool) (w : World) (hn : n ≤ 1000)
    (hx : ∀ k, k < n → ∃ g o v, a = some ⟨g, o, none⟩ ∧ w.cell? ⟨g, o + k, none⟩ = some v ∧ Calls Try.prog 35 #[v, .pointer (some ⟨b, 0, none⟩)] w fun e w' => e = .returned (.bool (p k)) ∧ w' = w) :
    Calls Try.prog 54 #[.slice a n c, .func (.func 35) #[] #[.pointer (some ⟨b, 0, none⟩)]] w (IdxSay n p w) := by
  obtain ⟨Post, hPost⟩ : ∃ Post, Post = IdxSay n p w := ⟨_, rfl⟩
  rw [← hPost]
  have HP : Hid (∀ e w', IdxSay n p w e w' → Post e w') := fun e w' h => by rw [hPost]; exact h
  clear hPost
  have HX : Hid (∀ k, k < n → ∃ g o v, a = some ⟨g, o, none⟩ ∧ w.cell? ⟨g, o + k, none⟩ = some v ∧ Calls Try.prog 35 #[v, .pointer (some ⟨b, 0, none⟩)] w fun e w' => e = .returned (.bool (p k)) ∧ w' = w) := hx
  clear hx
  have hen : ∀ args w, (callFunc 35 args).run Try.prog w = .ok (.enter 35 args) w := enters_of Try.func35 (by kernel_rfl) rfl
  go_enter Try.func54, Try.ntmps54
  go_wp2
  go_loopw [8] (fun v wr => ∃ k : Nat, v = .int .i64 (k : Int) ∧ k ≤ n ∧ wr = w ∧ Hid (∀ j, j < k → p j = false)) (fun v _ => n - (intOf v).toNat)
  case atStart => exact ⟨0, rfl, by omega, rfl, fun j hj => by omega⟩
  case round =>
    obtain ⟨k, rfl, hk, hwr, HF⟩ := hrel
    subst wr
    by_cases hlt : k < n
    case neg =>
      have hlt' : ¬ (k : Int) < (n : Int) := by omega
      obtain rfl : k = n := by omega
      have R := HP.out (.returned (.int .i64 (-1))) w ⟨_, rfl, rfl, .inl ⟨rfl, HF.out⟩⟩
      clear HP HF HX
      go_wp2
      exact R
    have hlt' : (k : Int) < (n : Int) := by omega
    obtain ⟨g, o, v, rfl, hc, hcall⟩ := HX.out k hlt
    have wk : IntKind.i64.wrap ((k : Int) + 1) = ((k + 1 : Nat) : Int) := by rw [IntKind.wrap_i64]; omega
    cases hp : p k with
    | true =>
      rw [hp] at hcall
      have R := HP.out (.returned (.int .i64 (k : Int))) w ⟨_, rfl, rfl, .inr ⟨by omega, k, hlt, hp⟩⟩
      clear HP HF HX
      go_wp2_with fail
      refine hcall.mono ?_
      rintro _ w1 ⟨rfl, hw1⟩
      subst w1
      go_wp2
      exact R
    | false =>
      rw [hp] at hcall
      have HF2 : Hid (∀ j, j < k + 1 → p j = false) := fun j hj => by
        by_cases e : j = k
        · rw [e]; exact hp
        · exact HF.out j (by omega)
      clear HP HF HX
      go_wp2_with fail
      refine hcall.mono ?_
      rintro _ w1 ⟨rfl, hw1⟩
      subst w1
      go_wp2
      exact ⟨⟨k + 1, rfl, by omega, trivial, HF2⟩, by simp [intOf]; omega⟩
theorem con_int (a : Option Addr) (n c : Nat) (b : Nat) (p : Nat → Bool) (w : World) (hn : n ≤ 1000)
    (hx : ∀ k, k < n → ∃ g o v, a = some ⟨g, o, none⟩ ∧ w.cell? ⟨g, o + k, none⟩ = some v ∧ Calls Try.prog 35 #[v, .pointer (some ⟨b, 0, none⟩)] w fun e w' => e = .returned (.bool (p k)) ∧ w' = w) :
    Calls Try.prog 37 #[.slice a n c, .func (.func 35) #[] #[.pointer (some ⟨b, 0, none⟩)]] w (ConSay n p w) := by
  have hi := idx_int a n c b p w hn hx
  clear hx
  obtain ⟨Post, hPost⟩ : ∃ Post, Post = ConSay n p w := ⟨_, rfl⟩
  rw [← hPost]
  have HP : Hid (∀ e w', ConSay n p w e w' → Post e w') := fun e w' h => by rw [hPost]; exact h
  clear hPost
  go_enter Try.func37, Try.ntmps37
  go_wp2_with fail
  refine hi.mono ?_
  clear hi
  rintro _ w1 ⟨r, rfl, hw1, hr⟩
  subst w1
  have R := HP.out (.returned (.bool (decide (0 ≤ r)))) w ⟨_, rfl, rfl, con_of hr⟩
  clear HP hr
  go_wp2
  exact R
def badL (m : Int) (xs : List Int) (n : Nat) : Bool := decide (n ≠ 256 ∨ ∃ k, k < n ∧ wrongV m (xs.getD k 0) = true)
theorem bad_c (m : Int) (a : Option Addr) (n c : Nat) (xs : List Int) (b b1 : Nat) (w : World) (hn : n ≤ 256) (hI : IntsAt w a n xs) (hb : w.cell? ⟨b, 0, none⟩ = some (.int .i64 m)) (hf : w.cell? ⟨b1, 0, none⟩ = some (.func (.func 35) #[] #[.pointer (some ⟨b, 0, none⟩)])) :
    Calls Try.prog 36 #[.slice a n c, .pointer (some ⟨b1, 0, none⟩)] w fun e w' => e = .returned (.bool (badL m xs n)) ∧ w' = w := by
  have hc := con_int a n c b (fun k => wrongV m (xs.getD k 0)) w (by omega) (fun k hk => by
    obtain ⟨g, o, e, hcell⟩ := hI.cells k hk
    exact ⟨g, o, _, e, hcell, wrong_c m _ b w hb⟩)
  by_cases h : n = 256
  · have h' : ((n : Int) == 256) = true := by simp [h]
    have h'' : ((n : Int) != 256) = false := by simp [h]
    have HE : Hid (∀ r : Bool, (r = true ↔ ∃ k, k < n ∧ wrongV m (xs.getD k 0) = true) → r = badL m xs n) := fun r hr => by
      unfold badL
      rw [Bool.eq_iff_iff, decide_eq_true_eq]
      exact ⟨fun q => .inr (hr.1 q), fun q => hr.2 (q.resolve_left (fun e => e h))⟩
    clear hI hb
    generalize badL m xs n = bb at *
    subst h
    go_enter Try.func36, Try.ntmps36
    go_wp2_with fail
    refine hc.mono ?_
    clear hc
    rintro _ w1 ⟨r, rfl, hw1, hr⟩
    subst w1
    have he := HE.out r hr
    subst he
    clear HE hr
    go_wp2
    go_ret
    exact ⟨rfl, rfl⟩
  · have h' : ((n : Int) == 256) = false := by simp; omega
    have h'' : ((n : Int) != 256) = true := by simp; omega
    have e : badL m xs n = true := decide_eq_true (.inl h)
    rw [e]
    clear e hc hI hb hf h
    go_enter Try.func36, Try.ntmps36
    go_wp2
    go_ret
    exact ⟨rfl, rfl⟩
set_option maxHeartbeats 1000000 in
theorem idx_row (a : Option Addr) (n c : Nat) (b : Nat) (p : Nat → Bool) (w : World) (hn : n ≤ 1000)
    (hx : ∀ k, k < n → ∃ g o v, a = some ⟨g, o, none⟩ ∧ w.cell? ⟨g, o + k, none⟩ = some v ∧ Calls Try.prog 36 #[v, .pointer (some ⟨b, 0, none⟩)] w fun e w' => e = .returned (.bool (p k)) ∧ w' = w) :
    Calls Try.prog 55 #[.slice a n c, .func (.func 36) #[] #[.pointer (some ⟨b, 0, none⟩)]] w (IdxSay n p w) := by
  obtain ⟨Post, hPost⟩ : ∃ Post, Post = IdxSay n p w := ⟨_, rfl⟩
  rw [← hPost]
  have HP : Hid (∀ e w', IdxSay n p w e w' → Post e w') := fun e w' h => by rw [hPost]; exact h
  clear hPost
  have HX : Hid (∀ k, k < n → ∃ g o v, a = some ⟨g, o, none⟩ ∧ w.cell? ⟨g, o + k, none⟩ = some v ∧ Calls Try.prog 36 #[v, .pointer (some ⟨b, 0, none⟩)] w fun e w' => e = .returned (.bool (p k)) ∧ w' = w) := hx
  clear hx
  have hen : ∀ args w, (callFunc 36 args).run Try.prog w = .ok (.enter 36 args) w := enters_of Try.func36 (by kernel_rfl) rfl
  go_enter Try.func55, Try.ntmps55
  go_wp2
  go_loopw [8] (fun v wr => ∃ k : Nat, v = .int .i64 (k : Int) ∧ k ≤ n ∧ wr = w ∧ Hid (∀ j, j < k → p j = false)) (fun v _ => n - (intOf v).toNat)
  case atStart => exact ⟨0, rfl, by omega, rfl, fun j hj => by omega⟩
  case round =>
    obtain ⟨k, rfl, hk, hwr, HF⟩ := hrel
    subst wr
    by_cases hlt : k < n
    case neg =>
      have hlt' : ¬ (k : Int) < (n : Int) := by omega
      obtain rfl : k = n := by omega
      have R := HP.out (.returned (.int .i64 (-1))) w ⟨_, rfl, rfl, .inl ⟨rfl, HF.out⟩⟩
      clear HP HF HX
      go_wp2
      exact R
    have hlt' : (k : Int) < (n : Int) := by omega
    obtain ⟨g, o, v, rfl, hc, hcall⟩ := HX.out k hlt
    have wk : IntKind.i64.wrap ((k : Int) + 1) = ((k + 1 : Nat) : Int) := by rw [IntKind.wrap_i64]; omega
    cases hp : p k with
    | true =>
      rw [hp] at hcall
      have R := HP.out (.returned (.int .i64 (k : Int))) w ⟨_, rfl, rfl, .inr ⟨by omega, k, hlt, hp⟩⟩
      clear HP HF HX
      go_wp2_with fail
      refine hcall.mono ?_
      rintro _ w1 ⟨rfl, hw1⟩
      subst w1
      go_wp2
      exact R
    | false =>
      rw [hp] at hcall
      have HF2 : Hid (∀ j, j < k + 1 → p j = false) := fun j hj => by
        by_cases e : j = k
        · rw [e]; exact hp
        · exact HF.out j (by omega)
      clear HP HF HX
      go_wp2_with fail
      refine hcall.mono ?_
      rintro _ w1 ⟨rfl, hw1⟩
      subst w1
      go_wp2
      exact ⟨⟨k + 1, rfl, by omega, trivial, HF2⟩, by simp [intOf]; omega⟩
theorem con_row (a : Option Addr) (n c : Nat) (b : Nat) (p : Nat → Bool) (w : World) (hn : n ≤ 1000)
    (hx : ∀ k, k < n → ∃ g o v, a = some ⟨g, o, none⟩ ∧ w.cell? ⟨g, o + k, none⟩ = some v ∧ Calls Try.prog 36 #[v, .pointer (some ⟨b, 0, none⟩)] w fun e w' => e = .returned (.bool (p k)) ∧ w' = w) :
    Calls Try.prog 38 #[.slice a n c, .func (.func 36) #[] #[.pointer (some ⟨b, 0, none⟩)]] w (ConSay n p w) := by
  have hi := idx_row a n c b p w hn hx
  clear hx
  obtain ⟨Post, hPost⟩ : ∃ Post, Post = ConSay n p w := ⟨_, rfl⟩
  rw [← hPost]
  have HP : Hid (∀ e w', ConSay n p w e w' → Post e w') := fun e w' h => by rw [hPost]; exact h
  clear hPost
  go_enter Try.func38, Try.ntmps38
  go_wp2_with fail
  refine hi.mono ?_
  clear hi
  rintro _ w1 ⟨r, rfl, hw1, hr⟩
  subst w1
  have R := HP.out (.returned (.bool (decide (0 ≤ r)))) w ⟨_, rfl, rfl, con_of hr⟩
  clear HP hr
  go_wp2
  exact R
theorem okG_bad {m : Int} {ls : List (List Int)} (h9 : ls.length = 9) : okG m ls ↔ ¬ ∃ k, k < 9 ∧ badL m (ls.getD k []) (ls.getD k []).length = true := by
  unfold okG badL wrongV
  constructor
  · rintro ⟨_, h⟩ ⟨k, hk, hb⟩
    rw [decide_eq_true_eq] at hb
    obtain ⟨h1, h2⟩ := h k hk
    rcases hb with hb | ⟨j, hj, hb⟩
    · exact hb h1
    · rw [decide_eq_true_eq] at hb
      have := h2 j (by omega)
      omega
  · intro h
    refine ⟨h9, fun i hi => ?_⟩
    by_cases e : (ls.getD i []).length = 256
    · refine ⟨e, fun k hk => ?_⟩
      by_cases q : 0 ≤ (ls.getD i []).getD k 0 ∧ (ls.getD i []).getD k 0 < m
      · exact q
      · exfalso
        exact h ⟨i, hi, decide_eq_true (.inr ⟨k, by omega, decide_eq_true (by omega)⟩)⟩
    · exact absurd ⟨i, hi, decide_eq_true (.inl e)⟩ h
theorem two_al2 {w W : World} {o0 o1 : Obj} (h : W = (w.alloc o0).alloc o1) : Below w.heap.size w W ∧ W.heap[w.heap.size]? = some o0 ∧ W.heap[w.heap.size + 1]? = some o1 := by
  subst h
  exact ⟨below_two w _ _, (heap_alloc_old _ _ (by simp)).trans (heap_alloc_new w _), new_two w _ _⟩
set_option maxHeartbeats 1000000 in
theorem nine_c (a : Option Addr) (n c : Nat) (m : Int) (ls : List (List Int)) (b : Bool) (w : World) (hR : Rows2 w a ls) (hl : ls.length = n) (hn : n ≤ 100) (hs : ∀ i, i < n → (ls.getD i []).length ≤ 256) (hb : b = true ↔ okG m ls) :
    Calls Try.prog 22 #[.slice a n c, .int .i64 m] w fun e w' => e = .returned (.bool b) ∧ Below w.heap.size w w' := by
  obtain ⟨Post, hPost⟩ : ∃ Post : Ending → World → Prop, Post = fun e w' => e = .returned (.bool b) ∧ Below w.heap.size w w' := ⟨_, rfl⟩
  rw [← hPost]
  have HP : Hid (∀ v w', v = b → Below w.heap.size w w' → Post (.returned (.bool v)) w') := fun v w' h1 h2 => by rw [hPost, h1]; exact ⟨rfl, h2⟩
  clear hPost
  obtain ⟨W, hW⟩ : ∃ W, W = (w.alloc (.cells #[.int .i64 m] 3)).alloc (.cells #[.func (.func 35) #[] #[.pointer (some ⟨w.heap.size, 0, none⟩)]] 80) := ⟨_, rfl⟩
  obtain ⟨hbel, k0, k1⟩ := two_al2 hW
  have hc := con_row a n c (w.heap.size + 1) (fun k => badL m (ls.getD k []) (ls.getD k []).length) W (by omega) (fun k hk => by
    obtain ⟨g, o, ai, ci, e, hcell, hI⟩ := (hR.on hbel).row k (by omega)
    exact ⟨g, o, _, e, hcell, bad_c m ai _ ci _ w.heap.size (w.heap.size + 1) W (hs k hk) hI ((cell_of_row W _ 0 _ 3 (0, 0) k0).trans rfl) ((cell_of_row W _ 0 _ 80 (0, 0) k1).trans rfl)⟩)
  have Hbel : Hid (Below w.heap.size w W) := hbel
  have HW : Hid (W = (w.alloc (.cells #[.int .i64 m] 3)).alloc (.cells #[.func (.func 35) #[] #[.pointer (some ⟨w.heap.size, 0, none⟩)]] 80)) := hW
  clear k0 k1 hbel hW hR
  have hmf1 : ∀ w' : World, Sem.run Try.prog (Instr.makeFunc (.func 35) #[] #[.pointer (some ⟨w.heap.size, 0, none⟩)]) w' = .ok (.func (.func 35) #[] #[.pointer (some ⟨w.heap.size, 0, none⟩)]) w' := fun _ => by rfl
  have hmf2 : ∀ w' : World, Sem.run Try.prog (Instr.makeFunc (.func 36) #[] #[.pointer (some ⟨w.heap.size + 1, 0, none⟩)]) w' = .ok (.func (.func 36) #[] #[.pointer (some ⟨w.heap.size + 1, 0, none⟩)]) w' := fun _ => by rfl
  by_cases h9 : n = 9
  · have h9' : ((n : Int) == 9) = true := by simp [h9]
    have HE : Hid (∀ r : Bool, (r = true ↔ ∃ k, k < n ∧ badL m (ls.getD k []) (ls.getD k []).length = true) → (!r) = b) := fun r hr => by
      rw [h9] at hr
      have := okG_bad (m := m) (show ls.length = 9 by omega)
      rw [Bool.eq_iff_iff, hb, this, ← hr]
      simp
    clear hb hl hs hn
    subst h9
    go_enter Try.func22, Try.ntmps22
    go_wp2_with fail
    rw [← HW.out]
    clear HW
    refine hc.mono ?_
    clear hc
    rintro _ w1 ⟨r, rfl, hw1, hr⟩
    subst w1
    have R := HP.out _ W (HE.out r hr) Hbel.out
    clear HP HE hr Hbel
    go_wp2
    exact R
  · have h9' : ((n : Int) == 9) = false := by simp; omega
    have e : b = false := by
      cases hbb : b with
      | false => rfl
      | true => exact absurd (hl.symm.trans (hb.1 hbb).1) h9
    have R := HP.out false W e.symm Hbel.out
    rw [HW.out] at R
    clear HP hb hc Hbel HW hl hs hn h9 e
    go_enter Try.func22, Try.ntmps22
    go_wp2
    exact R
end Go.Proofs.Ytbdjgaagafnfaaa
