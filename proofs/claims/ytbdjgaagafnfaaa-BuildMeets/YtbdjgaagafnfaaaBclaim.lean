/-
  The document's Claim, and the ground of a column.
-/
import Derived.Test.YtbdjgaagafnfaaaBbase
set_option maxRecDepth 20000
namespace Go.Proofs.Ytbdjgaagafnfaaa
open C Go.RowKit

/-- What a claim is told as. -/
def told (o : Option Int) : Ending := .returned (.tuple #[.int .i64 (o.getD 0), .bool o.isSome])
def thingV (t : Thing) : Value := .agg #[.int .i64 (t.s : Int), .int .i64 t.x, .int .i64 t.z, .int .i64 t.h, .int .i64 t.l]
/-- Claims by how far a cell is. -/
def clV (s : Nat) (dx dz dy l dl k : Int) : Option Int :=
  if s = 0 then
    (if 2 < dx ∨ 2 < dz ∨ dy < 0 ∨ 4 < dy then none
    else if dy = 0 then some 12
    else if dy = 4 then some 14
    else if dx = 2 ∨ dz = 2 then some 12
    else if dx = 0 ∧ dz = 0 ∧ dy = 1 then some 13
    else some 0)
  else if s = 1 then
    (if dx ≠ 0 ∨ dz ≠ 0 ∨ dy < 1 ∨ 3 < dy then none
    else if dy = 3 then some 13
    else some 10)
  else if k ≠ 0 then none
  else if dx = 0 ∧ dz = 0 ∧ 1 ≤ dy ∧ dy ≤ l then some 10
  else if dx ≤ 2 ∧ dz ≤ 2 ∧ l - 1 ≤ dy ∧ dx + dz + dl ≤ 3 then some 11
  else none
set_option maxRecDepth 100000 in
set_option maxHeartbeats 4000000 in
theorem rclaim_c (t : Thing) (x y z k : Int) (w : World) (hs : t.s < 3) (bx : -1000000000000000 ≤ x ∧ x ≤ 1000000000000000) (by_ : -1000000000000000 ≤ y ∧ y ≤ 1000000000000000) (bz : -1000000000000000 ≤ z ∧ z ≤ 1000000000000000)
    (tx : -1000000000000000 ≤ t.x ∧ t.x ≤ 1000000000000000) (tz : -1000000000000000 ≤ t.z ∧ t.z ≤ 1000000000000000) (th : 0 ≤ t.h ∧ t.h ≤ 1000) (tl : 4 ≤ t.l ∧ t.l ≤ 7) :
    Calls Try.prog 18 #[thingV t, .agg #[.int .i64 x, .int .i64 y, .int .i64 z], .int .i64 k] w fun e w' => e = told (clm t x y z k) ∧ Below w.heap.size w w' := by
  obtain ⟨Post, hPost⟩ : ∃ Post : Ending → World → Prop, Post = fun e w' => e = told (clm t x y z k) ∧ Below w.heap.size w w' := ⟨_, rfl⟩
  rw [← hPost]
  have hcl : clm t x y z k = clV t.s (absI (x - t.x)) (absI (z - t.z)) (y - t.h) t.l (absI (y - t.h - t.l)) k := rfl
  have HP : Hid (∀ o w', clV t.s (absI (x - t.x)) (absI (z - t.z)) (y - t.h) t.l (absI (y - t.h - t.l)) k = o → Below w.heap.size w w' → Post (told o) w') := fun o w' h1 h2 => by rw [hPost, hcl, h1]; exact ⟨rfl, h2⟩
  clear hPost hcl
  obtain ⟨ts, tX, tZ, tH, tL⟩ := t
  simp only [thingV] at *
  obtain ⟨x0, x1⟩ := bx
  obtain ⟨y0, y1⟩ := by_
  obtain ⟨z0, z1⟩ := bz
  obtain ⟨tx0, tx1⟩ := tx
  obtain ⟨tz0, tz1⟩ := tz
  obtain ⟨th0, th1⟩ := th
  obtain ⟨tl0, tl1⟩ := tl
  obtain ⟨dx, hdx⟩ : ∃ d, absI (x - tX) = d := ⟨_, rfl⟩
  obtain ⟨dz, hdz⟩ : ∃ d, absI (z - tZ) = d := ⟨_, rfl⟩
  have s1 := fun w => rsize_c (x - tX) dx w hdx (by omega) (by omega)
  have s2 := fun w => rsize_c (z - tZ) dz w hdz (by omega) (by omega)
  have dx0 : 0 ≤ dx := by rw [← hdx]; exact absI_pos _
  have dz0 : 0 ≤ dz := by rw [← hdz]; exact absI_pos _
  obtain ⟨dy, hdy⟩ : ∃ d, y - tH = d := ⟨_, rfl⟩
  obtain ⟨dl, hdl⟩ : ∃ d, absI (dy - tL) = d := ⟨_, rfl⟩
  have s3 := fun w => rsize_c (dy - tL) dl w hdl (by omega) (by omega)
  have bl : 0 ≤ dl ∧ dl ≤ 4000000000000000 := by rw [← hdl]; unfold absI; split <;> omega
  have bdx : dx ≤ 4000000000000000 := by rw [← hdx]; unfold absI; split <;> omega
  have bdz : dz ≤ 4000000000000000 := by rw [← hdz]; unfold absI; split <;> omega
  rw [hdx, hdz, hdy, hdl] at HP
  have Hs3 : Hid (∀ w, Calls Try.prog 33 #[.int .i64 (dy - tL)] w fun e w' => e = .returned (.int .i64 dl) ∧ w' = w) := s3
  have HB : Hid (Below w.heap.size w ((w.alloc (.cells #[.int .i64 (ts : Int), .int .i64 tX, .int .i64 tZ, .int .i64 tH, .int .i64 tL] 50)).alloc (.cells #[.int .i64 x, .int .i64 y, .int .i64 z] 52))) := below_two w _ _
  clear hdx hdz hdl s3
  have hty0 : -1100000000000000 ≤ dy := by omega
  have hty1 : dy ≤ 1100000000000000 := by omega
  go_enter Try.func18, Try.ntmps18
  go_wp2_with fail
  refine (s1 _).mono ?_
  clear s1
  rintro _ w1 ⟨rfl, hw⟩
  subst hw
  go_wp2_with fail
  refine (s2 _).mono ?_
  clear s2
  rintro _ w1 ⟨rfl, hw⟩
  subst hw
  clear x0 x1 z0 z1 tx0 tx1 tz0 tz1
  have hss : ts = 0 ∨ ts = 1 ∨ ts = 2 := by omega
  rcases hss with hs0 | hs0 | hs0
  · by_cases c1 : 2 < dx
    · have e : clV ts dx dz dy tL dl k = none := by subst hs0; unfold clV; rw [if_pos rfl, if_pos (.inl c1)]
      have R := HP.out _ _ e HB.out
      have Hs := Hs3
      clear HP e HB Hs3
      try clear q1
      try clear g1
      try clear g2
      subst hs0
      go_wp2
      exact R
    by_cases c2 : 2 < dz
    · have e : clV ts dx dz dy tL dl k = none := by subst hs0; unfold clV; rw [if_pos rfl, if_pos (.inr (.inl c2))]
      have R := HP.out _ _ e HB.out
      have Hs := Hs3
      clear HP e HB Hs3
      try clear q1
      try clear g1
      try clear g2
      subst hs0
      go_wp2
      exact R
    by_cases c3 : dy < 0
    · have e : clV ts dx dz dy tL dl k = none := by subst hs0; unfold clV; rw [if_pos rfl, if_pos (.inr (.inr (.inl c3)))]
      have R := HP.out _ _ e HB.out
      have Hs := Hs3
      clear HP e HB Hs3
      try clear q1
      try clear g1
      try clear g2
      subst hs0
      go_wp2
      exact R
    by_cases c4 : 4 < dy
    · have e : clV ts dx dz dy tL dl k = none := by subst hs0; unfold clV; rw [if_pos rfl, if_pos (.inr (.inr (.inr c4)))]
      have R := HP.out _ _ e HB.out
      have Hs := Hs3
      clear HP e HB Hs3
      try clear q1
      try clear g1
      try clear g2
      subst hs0
      go_wp2
      exact R
    have hno : ¬ (2 < dx ∨ 2 < dz ∨ dy < 0 ∨ 4 < dy) := by omega
    by_cases c5 : dy = 0
    · have c5' : (dy == 0) = true := by simpa using c5
      have e : clV ts dx dz dy tL dl k = some 12 := by subst hs0; unfold clV; rw [if_pos rfl, if_neg hno, if_pos c5]
      have R := HP.out _ _ e HB.out
      have Hs := Hs3
      clear HP e HB Hs3
      try clear q1
      try clear g1
      try clear g2
      subst hs0
      go_wp2
      exact R
    by_cases c6 : dy = 4
    · have c5' : (dy == 0) = false := by simpa using c5
      have c6' : (dy == 4) = true := by simpa using c6
      have e : clV ts dx dz dy tL dl k = some 14 := by subst hs0; unfold clV; rw [if_pos rfl, if_neg hno, if_neg c5, if_pos c6]
      have R := HP.out _ _ e HB.out
      have Hs := Hs3
      clear HP e HB Hs3
      try clear q1
      try clear g1
      try clear g2
      subst hs0
      go_wp2
      exact R
    have c5' : (dy == 0) = false := by simpa using c5
    have c6' : (dy == 4) = false := by simpa using c6
    by_cases c7 : dx = 2
    · have c7' : (dx == 2) = true := by simpa using c7
      have e : clV ts dx dz dy tL dl k = some 12 := by subst hs0; unfold clV; rw [if_pos rfl, if_neg hno, if_neg c5, if_neg c6, if_pos (.inl c7)]
      have R := HP.out _ _ e HB.out
      have Hs := Hs3
      clear HP e HB Hs3
      try clear q1
      try clear g1
      try clear g2
      subst hs0
      go_wp2
      exact R
    have c7' : (dx == 2) = false := by simpa using c7
    by_cases c8 : dz = 2
    · have c8' : (dz == 2) = true := by simpa using c8
      have e : clV ts dx dz dy tL dl k = some 12 := by subst hs0; unfold clV; rw [if_pos rfl, if_neg hno, if_neg c5, if_neg c6, if_pos (.inr c8)]
      have R := HP.out _ _ e HB.out
      have Hs := Hs3
      clear HP e HB Hs3
      try clear q1
      try clear g1
      try clear g2
      subst hs0
      go_wp2
      exact R
    have c8' : (dz == 2) = false := by simpa using c8
    have hno2 : ¬ (dx = 2 ∨ dz = 2) := by omega
    by_cases c9 : dx = 0
    case neg =>
      have c9' : (dx == 0) = false := by simpa using c9
      have e : clV ts dx dz dy tL dl k = some 0 := by subst hs0; unfold clV; rw [if_pos rfl, if_neg hno, if_neg c5, if_neg c6, if_neg hno2, if_neg (fun h => c9 h.1)]
      have R := HP.out _ _ e HB.out
      have Hs := Hs3
      clear HP e HB Hs3
      try clear q1
      try clear g1
      try clear g2
      subst hs0
      go_wp2
      exact R
    have c9' : (dx == 0) = true := by simpa using c9
    by_cases c10 : dz = 0
    case neg =>
      have c10' : (dz == 0) = false := by simpa using c10
      have e : clV ts dx dz dy tL dl k = some 0 := by subst hs0; unfold clV; rw [if_pos rfl, if_neg hno, if_neg c5, if_neg c6, if_neg hno2, if_neg (fun h => c10 h.2.1)]
      have R := HP.out _ _ e HB.out
      have Hs := Hs3
      clear HP e HB Hs3
      try clear q1
      try clear g1
      try clear g2
      subst hs0
      go_wp2
      exact R
    have c10' : (dz == 0) = true := by simpa using c10
    by_cases c11 : dy = 1
    · have c11' : (dy == 1) = true := by simpa using c11
      have e : clV ts dx dz dy tL dl k = some 13 := by subst hs0; unfold clV; rw [if_pos rfl, if_neg hno, if_neg c5, if_neg c6, if_neg hno2, if_pos ⟨c9, c10, c11⟩]
      have R := HP.out _ _ e HB.out
      have Hs := Hs3
      clear HP e HB Hs3
      try clear q1
      try clear g1
      try clear g2
      subst hs0
      go_wp2
      exact R
    · have c11' : (dy == 1) = false := by simpa using c11
      have e : clV ts dx dz dy tL dl k = some 0 := by subst hs0; unfold clV; rw [if_pos rfl, if_neg hno, if_neg c5, if_neg c6, if_neg hno2, if_neg (fun h => c11 h.2.2)]
      have R := HP.out _ _ e HB.out
      have Hs := Hs3
      clear HP e HB Hs3
      try clear q1
      try clear g1
      try clear g2
      subst hs0
      go_wp2
      exact R
  · by_cases c1 : dx = 0
    case neg =>
      have c1' : (dx == 0) = false := by simpa using c1
      have e : clV ts dx dz dy tL dl k = none := by subst hs0; unfold clV; rw [if_neg (by decide), if_pos rfl, if_pos (.inl c1)]
      have R := HP.out _ _ e HB.out
      have Hs := Hs3
      clear HP e HB Hs3
      try clear q1
      try clear g1
      try clear g2
      subst hs0
      go_wp2
      exact R
    have c1' : (dx == 0) = true := by simpa using c1
    by_cases c2 : dz = 0
    case neg =>
      have c2' : (dz == 0) = false := by simpa using c2
      have e : clV ts dx dz dy tL dl k = none := by subst hs0; unfold clV; rw [if_neg (by decide), if_pos rfl, if_pos (.inr (.inl c2))]
      have R := HP.out _ _ e HB.out
      have Hs := Hs3
      clear HP e HB Hs3
      try clear q1
      try clear g1
      try clear g2
      subst hs0
      go_wp2
      exact R
    have c2' : (dz == 0) = true := by simpa using c2
    by_cases c3 : dy < 1
    · have e : clV ts dx dz dy tL dl k = none := by subst hs0; unfold clV; rw [if_neg (by decide), if_pos rfl, if_pos (.inr (.inr (.inl c3)))]
      have R := HP.out _ _ e HB.out
      have Hs := Hs3
      clear HP e HB Hs3
      try clear q1
      try clear g1
      try clear g2
      subst hs0
      go_wp2
      exact R
    by_cases c4 : 3 < dy
    · have e : clV ts dx dz dy tL dl k = none := by subst hs0; unfold clV; rw [if_neg (by decide), if_pos rfl, if_pos (.inr (.inr (.inr c4)))]
      have R := HP.out _ _ e HB.out
      have Hs := Hs3
      clear HP e HB Hs3
      try clear q1
      try clear g1
      try clear g2
      subst hs0
      go_wp2
      exact R
    have hno : ¬ (dx ≠ 0 ∨ dz ≠ 0 ∨ dy < 1 ∨ 3 < dy) := by omega
    by_cases c5 : dy = 3
    · have c5' : (dy == 3) = true := by simpa using c5
      have e : clV ts dx dz dy tL dl k = some 13 := by subst hs0; unfold clV; rw [if_neg (by decide), if_pos rfl, if_neg hno, if_pos c5]
      have R := HP.out _ _ e HB.out
      have Hs := Hs3
      clear HP e HB Hs3
      try clear q1
      try clear g1
      try clear g2
      subst hs0
      go_wp2
      exact R
    · have c5' : (dy == 3) = false := by simpa using c5
      have e : clV ts dx dz dy tL dl k = some 10 := by subst hs0; unfold clV; rw [if_neg (by decide), if_pos rfl, if_neg hno, if_neg c5]
      have R := HP.out _ _ e HB.out
      have Hs := Hs3
      clear HP e HB Hs3
      try clear q1
      try clear g1
      try clear g2
      subst hs0
      go_wp2
      exact R
  · by_cases c0 : k = 0
    case neg =>
      have c0' : (k == 0) = false := by simpa using c0
      have e : clV ts dx dz dy tL dl k = none := by subst hs0; unfold clV; rw [if_neg (by decide), if_neg (by decide), if_pos c0]
      have R := HP.out _ _ e HB.out
      have Hs := Hs3
      clear HP e HB Hs3
      try clear q1
      try clear g1
      try clear g2
      subst hs0
      go_wp2
      exact R
    have c0' : (k == 0) = true := by simpa using c0
    have hk : ¬ k ≠ 0 := fun h => h c0
    by_cases q1 : dx = 0 ∧ dz = 0 ∧ 1 ≤ dy ∧ dy ≤ tL
    · obtain ⟨c1, c2, c3, c4⟩ := q1
      have c1' : (dx == 0) = true := by simpa using c1
      have c2' : (dz == 0) = true := by simpa using c2
      have e : clV ts dx dz dy tL dl k = some 10 := by subst hs0; unfold clV; rw [if_neg (by decide), if_neg (by decide), if_neg hk, if_pos ⟨c1, c2, c3, c4⟩]
      have R := HP.out _ _ e HB.out
      have Hs := Hs3
      clear HP e HB Hs3
      try clear q1
      try clear g1
      try clear g2
      subst hs0
      go_wp2
      exact R
    by_cases f1 : dx ≠ 0
    · have a1 : (dx == 0) = false := by simpa using f1
      by_cases e1 : dx ≤ 2
      case neg =>
        have e : clV ts dx dz dy tL dl k = none := by subst hs0; unfold clV; rw [if_neg (by decide), if_neg (by decide), if_neg hk, if_neg q1, if_neg (fun h => e1 h.1)]
        have R := HP.out _ _ e HB.out
        have Hs := Hs3
        clear HP e HB Hs3
        try clear q1
        try clear g1
        try clear g2
        subst hs0
        go_wp2
        exact R
      by_cases e2 : dz ≤ 2
      case neg =>
        have e : clV ts dx dz dy tL dl k = none := by subst hs0; unfold clV; rw [if_neg (by decide), if_neg (by decide), if_neg hk, if_neg q1, if_neg (fun h => e2 h.2.1)]
        have R := HP.out _ _ e HB.out
        have Hs := Hs3
        clear HP e HB Hs3
        try clear q1
        try clear g1
        try clear g2
        subst hs0
        go_wp2
        exact R
      by_cases e3 : tL - 1 ≤ dy
      case neg =>
        have e : clV ts dx dz dy tL dl k = none := by subst hs0; unfold clV; rw [if_neg (by decide), if_neg (by decide), if_neg hk, if_neg q1, if_neg (fun h => e3 h.2.2.1)]
        have R := HP.out _ _ e HB.out
        have Hs := Hs3
        clear HP e HB Hs3
        try clear q1
        try clear g1
        try clear g2
        subst hs0
        go_wp2
        exact R
      by_cases e4 : dx + dz + dl ≤ 3
      · have e : clV ts dx dz dy tL dl k = some 11 := by subst hs0; unfold clV; rw [if_neg (by decide), if_neg (by decide), if_neg hk, if_neg q1, if_pos ⟨e1, e2, e3, e4⟩]
        have R := HP.out _ _ e HB.out
        have Hs := Hs3
        clear HP e HB Hs3
        try clear q1
        try clear g1
        try clear g2
        subst hs0
        go_wp2_with fail
        refine (Hs.out _).mono ?_
        rintro _ w1 ⟨rfl, hw⟩
        replace hw := hw.symm
        subst hw
        go_wp2
        exact R
      · have e : clV ts dx dz dy tL dl k = none := by subst hs0; unfold clV; rw [if_neg (by decide), if_neg (by decide), if_neg hk, if_neg q1, if_neg (fun h => e4 h.2.2.2)]
        have R := HP.out _ _ e HB.out
        have Hs := Hs3
        clear HP e HB Hs3
        try clear q1
        try clear g1
        try clear g2
        subst hs0
        go_wp2_with fail
        refine (Hs.out _).mono ?_
        rintro _ w1 ⟨rfl, hw⟩
        replace hw := hw.symm
        subst hw
        go_wp2
        exact R
    have g1 : dx = 0 := by omega
    by_cases f1 : dz ≠ 0
    · have a1 : (dx == 0) = true := by simpa using g1
      have a2 : (dz == 0) = false := by simpa using f1
      have e1 : dx ≤ 2 := by omega
      by_cases e2 : dz ≤ 2
      case neg =>
        have e : clV ts dx dz dy tL dl k = none := by subst hs0; unfold clV; rw [if_neg (by decide), if_neg (by decide), if_neg hk, if_neg q1, if_neg (fun h => e2 h.2.1)]
        have R := HP.out _ _ e HB.out
        have Hs := Hs3
        clear HP e HB Hs3
        try clear q1
        try clear g1
        try clear g2
        subst hs0
        go_wp2
        exact R
      by_cases e3 : tL - 1 ≤ dy
      case neg =>
        have e : clV ts dx dz dy tL dl k = none := by subst hs0; unfold clV; rw [if_neg (by decide), if_neg (by decide), if_neg hk, if_neg q1, if_neg (fun h => e3 h.2.2.1)]
        have R := HP.out _ _ e HB.out
        have Hs := Hs3
        clear HP e HB Hs3
        try clear q1
        try clear g1
        try clear g2
        subst hs0
        go_wp2
        exact R
      by_cases e4 : dx + dz + dl ≤ 3
      · have e : clV ts dx dz dy tL dl k = some 11 := by subst hs0; unfold clV; rw [if_neg (by decide), if_neg (by decide), if_neg hk, if_neg q1, if_pos ⟨e1, e2, e3, e4⟩]
        have R := HP.out _ _ e HB.out
        have Hs := Hs3
        clear HP e HB Hs3
        try clear q1
        try clear g1
        try clear g2
        subst hs0
        go_wp2_with fail
        refine (Hs.out _).mono ?_
        rintro _ w1 ⟨rfl, hw⟩
        replace hw := hw.symm
        subst hw
        go_wp2
        exact R
      · have e : clV ts dx dz dy tL dl k = none := by subst hs0; unfold clV; rw [if_neg (by decide), if_neg (by decide), if_neg hk, if_neg q1, if_neg (fun h => e4 h.2.2.2)]
        have R := HP.out _ _ e HB.out
        have Hs := Hs3
        clear HP e HB Hs3
        try clear q1
        try clear g1
        try clear g2
        subst hs0
        go_wp2_with fail
        refine (Hs.out _).mono ?_
        rintro _ w1 ⟨rfl, hw⟩
        replace hw := hw.symm
        subst hw
        go_wp2
        exact R
    have g2 : dz = 0 := by omega
    by_cases f1 : 1 ≤ dy
    case neg =>
      have a1 : (dx == 0) = true := by simpa using g1
      have a2 : (dz == 0) = true := by simpa using g2
      have e1 : dx ≤ 2 := by omega
      have e2 : dz ≤ 2 := by omega
      have e3 : ¬ tL - 1 ≤ dy := by omega
      have e : clV ts dx dz dy tL dl k = none := by subst hs0; unfold clV; rw [if_neg (by decide), if_neg (by decide), if_neg hk, if_neg q1, if_neg (fun h => e3 h.2.2.1)]
      have R := HP.out _ _ e HB.out
      have Hs := Hs3
      clear HP e HB Hs3
      try clear q1
      try clear g1
      try clear g2
      subst hs0
      go_wp2
      exact R
    have f2 : ¬ dy ≤ tL := fun h => q1 ⟨g1, g2, f1, h⟩
    have a1 : (dx == 0) = true := by simpa using g1
    have a2 : (dz == 0) = true := by simpa using g2
    have e1 : dx ≤ 2 := by omega
    have e2 : dz ≤ 2 := by omega
    have e3 : tL - 1 ≤ dy := by omega
    by_cases e4 : dx + dz + dl ≤ 3
    · have e : clV ts dx dz dy tL dl k = some 11 := by subst hs0; unfold clV; rw [if_neg (by decide), if_neg (by decide), if_neg hk, if_neg q1, if_pos ⟨e1, e2, e3, e4⟩]
      have R := HP.out _ _ e HB.out
      have Hs := Hs3
      clear HP e HB Hs3
      try clear q1
      try clear g1
      try clear g2
      subst hs0
      go_wp2_with fail
      refine (Hs.out _).mono ?_
      rintro _ w1 ⟨rfl, hw⟩
      replace hw := hw.symm
      subst hw
      go_wp2
      exact R
    · have e : clV ts dx dz dy tL dl k = none := by subst hs0; unfold clV; rw [if_neg (by decide), if_neg (by decide), if_neg hk, if_neg q1, if_neg (fun h => e4 h.2.2.2)]
      have R := HP.out _ _ e HB.out
      have Hs := Hs3
      clear HP e HB Hs3
      try clear q1
      try clear g1
      try clear g2
      subst hs0
      go_wp2_with fail
      refine (Hs.out _).mono ?_
      rintro _ w1 ⟨rfl, hw⟩
      replace hw := hw.symm
      subst hw
      go_wp2
      exact R
end Go.Proofs.Ytbdjgaagafnfaaa