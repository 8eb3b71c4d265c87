/-
  The program's region: header, bytesAt and the closure that it hands back.
  The program's region: bytesAt, and what it hands back.
  The program's region: blocks.
-/
import Derived.Test.YtdjhlpllffakpaaNlive
set_option maxRecDepth 20000
namespace Go.Proofs.Ytdjhlpllffakpaa
section
open Go.RowKit

/-- The header's bytes. -/
def hdrL (l : List Sm) : List Int := l.flatMap fun s => hdr1 s.sp s.b
theorem hdrL_len (l : List Sm) : (hdrL l).length = 4 * l.length := by
  induction l with
  | nil => rfl
  | cons s r ih =>
    show (hdr1 s.sp s.b ++ hdrL r).length = _
    rw [List.length_append, ih, List.length_cons]
    show 4 + _ = _
    omega
theorem hdrL_R (l : List Sm) : hdrL l = hdrR (l.map Sm.sp) (l.map Sm.b) := by
  unfold hdrR hdrL
  induction l with
  | nil => rfl
  | cons s r ih => rw [List.flatMap_cons, List.map_cons, List.map_cons, List.zip_cons_cons, List.map_cons, List.flatten_cons, ← ih]
theorem hdrL_snoc (l : List Sm) (s : Sm) : hdrL (l ++ [s]) = hdrL l ++ hdr1 s.sp s.b := by simp [hdrL]
/-- Slots whose entries have room. -/
def Small (l : List Sm) : Prop := ∀ s ∈ l, s.f < 256 ∧ s.m < 256 ∧ s.b.length < 65536
theorem hdrL_fit {l : List Sm} (h : Small l) : ∀ y ∈ hdrL l, 0 ≤ y ∧ y ≤ 255 := fun y hy => by
  obtain ⟨s, hs, hy⟩ := List.mem_flatMap.1 hy
  obtain ⟨h1, h2, h3⟩ := h s hs
  simp only [hdr1, Sm.sp, List.mem_cons, List.not_mem_nil, or_false] at hy
  omega
set_option maxHeartbeats 1000000 in
theorem header_c (g : Nat) (x z : Int) (l : List Sm) (w : World) (H : RB w g x z l) (hI : Small l) :
    Calls Try.prog 50 #[.pointer (some ⟨g, 0, none⟩)] w fun e w' => Below w.heap.size w w' ∧ ∃ a c, e = .returned (.slice a 64 c) ∧ Own w' w.heap.size a c (hdrL l) := by
  obtain ⟨Post, hPost⟩ : ∃ Post : Ending → World → Prop, Post = fun e w' => Below w.heap.size w w' ∧ ∃ a c, e = .returned (.slice a 64 c) ∧ Own w' w.heap.size a c (hdrL l) := ⟨_, rfl⟩
  rw [← hPost]
  have HP : Hid (∀ w' a c, Own w' w.heap.size a c (hdrL l) → Below w.heap.size w w' → Post (.returned (.slice a 64 c)) w') := fun w' a c h1 h2 => by rw [hPost]; exact ⟨h2, a, c, rfl, h1⟩
  clear hPost
  have HB : Hid (RB w g x z l) := H
  have HI : Hid (Small l) := hI
  obtain ⟨Z, hZ⟩ : ∃ Z, Z = smvs l := ⟨_, rfl⟩
  have HZ : Hid (Z = smvs l) := hZ
  clear H hZ hI
  go_enter Try.func50, Try.ntmps50
  go_wp2_with (refine wpList_load_mid rfl 71 (.tmp 9) rfl g 2 rfl Z _ (by rw [HZ.out]; exact HB.out.range) Try.underlying71 rfl (by rw [HZ.out, smvs_len, HB.out.n]; exact size71) ?_)
  go_loopw [3, 11] (fun s v wr => ∃ (j : Nat) (av : Option Addr) (cv : Nat), j ≤ 16 ∧ v = .int .i64 (j : Int) ∧ s = .slice av (4 * j) cv ∧ Hid (Own wr w.heap.size av cv (hdrL (l.take j))) ∧ Hid (Below w.heap.size w wr)) (fun _ v _ => 16 - (intOf v).toNat)
  case atStart => exact ⟨0, none, 0, Nat.zero_le _, by go_num, rfl, Own.nil _ _, Below.refl _ _⟩
  case round =>
    obtain ⟨j, av, cv, hj, rfl, rfl, HO, HBe⟩ := hrel
    have hn := HB.out.n
    by_cases hlt : j < 16
    · have hlt' : (j : Int) < 16 := by omega
      have hjl : j < l.length := by omega
      have hix := ix71 j hjl hn
      rw [← HZ.out] at hix
      obtain ⟨hF, hM, hN⟩ := HI.out l[j] (List.getElem_mem _)
      have HN : Hid (hdrL (l.take (j + 1)) = hdrL (l.take j) ++ [(l[j].f : Int), (l[j].m : Int), ((l[j].b.length % 256 : Nat) : Int), ((l[j].b.length / 256 : Nat) : Int)]) := by
        show _ = _
        rw [List.take_succ_eq_append_getElem hjl]
        exact hdrL_snoc _ _
      have Hlen : Hid ((hdrL (l.take j)).length = 4 * j) := by show _ = _; rw [hdrL_len, List.length_take]; omega
      generalize l[j].f = F at *
      generalize l[j].m = M at *
      generalize l[j].a = A at *
      generalize l[j].b.length = N at *
      generalize l[j].c = C at *
      have Hb2 : Hid (Below wr.heap.size wr (wr.alloc (.cells #[.int .i64 (F : Int), .int .i64 (M : Int), .slice A N C] 70))) := (Below.refl _ _).alloc (Nat.le_refl _) _
      generalize hdrL (l.take j) = T at *
      go_wp2_with fail
      generalize wr.alloc (.cells #[.int .i64 (F : Int), .int .i64 (M : Int), .slice A N C] 70) = w2 at *
      refine (entry_c F M A N C w2 hF hM hN).mono ?_
      rintro _ w3 ⟨rfl, hb3⟩
      have hb23 := Hb2.out.trans (hb3.mono Hb2.out.size)
      have hO3 := HO.out.later hb23
      have hB3 := HBe.out.trans (hb23.mono HBe.out.size)
      obtain ⟨n2, hn2⟩ : ∃ n2 : Int, n2 = ((N % 256 : Nat) : Int) := ⟨_, rfl⟩
      obtain ⟨n3, hn3⟩ : ∃ n3 : Int, n3 = ((N / 256 : Nat) : Int) := ⟨_, rfl⟩
      have hfit : ∀ y ∈ [(F : Int), (M : Int), n2, n3], 0 ≤ y ∧ y ≤ 255 := fun y hy => by
        simp only [List.mem_cons, List.not_mem_nil, or_false] at hy
        omega
      rw [← hn2, ← hn3] at HN ⊢
      have hb4 : Below w3.heap.size w3 (w3.alloc (.cells #[.int .u8 (F : Int), .int .u8 (M : Int), .int .u8 n2, .int .u8 n3] 93)) := (Below.refl _ _).alloc (Nat.le_refl _) _
      have hr4 := heap_alloc_new w3 (.cells #[.int .u8 (F : Int), .int .u8 (M : Int), .int .u8 n2, .int .u8 n3] 93)
      have HY : Hid (Bytes (w3.alloc (.cells #[.int .u8 (F : Int), .int .u8 (M : Int), .int .u8 n2, .int .u8 n3] 93)) (some ⟨w3.heap.size, 0, none⟩) 4 [(F : Int), (M : Int), n2, n3]) := ⟨rfl, .inr ⟨w3.heap.size, 0, rfl, fun k hk => by
        rw [cell_of_row _ _ _ _ 93 (0, 0) hr4]
        match k, hk with
        | 0, _ => rfl
        | 1, _ => rfl
        | 2, _ => rfl
        | 3, _ => rfl⟩, hfit⟩
      have HO4 : Hid (Own (w3.alloc (.cells #[.int .u8 (F : Int), .int .u8 (M : Int), .int .u8 n2, .int .u8 n3] 93)) w.heap.size av cv T) := hO3.later hb4
      have Hb4 : Hid (Below w.heap.size w (w3.alloc (.cells #[.int .u8 (F : Int), .int .u8 (M : Int), .int .u8 n2, .int .u8 n3] 93))) := hB3.alloc hB3.size _
      clear hb4 hr4 hO3 hB3 hb23 hb3 hfit HO HBe Hb2 HP hn2 hn3
      have hcut : ∀ w', (Instr.sliceAt 93 (.pointer (some ⟨w3.heap.size, 0, none⟩)) none none none).run Try.prog w' = .ok (.slice (some ⟨w3.heap.size, 0, none⟩) 4 4) w' := fun w' => by kernel_rfl
      have hbd : 4 * j + 4 ≤ 140737488355328 := by omega
      go_wp2_with (at_builtin; refine wpList_append_bytes rfl _ _ rfl w.heap.size av (4 * j) cv T Hlen.out rfl HO4.out (some ⟨w3.heap.size, 0, none⟩) 4 4 _ rfl HY.out (fun h => by cases h) hbd w Hb4.out Hb4.out.size ?_; intro a' c' w' HO' Hb' _)
      go_roundw
      case rel => exact ⟨j + 1, a', c', by omega, by go_num, by rw [Nat.mul_add], by rw [HN.out]; exact HO'.out, Hb'⟩
      case measure => simp [intOf]; omega
    · obtain rfl : j = 16 := by omega
      have hge : ¬ ((16 : Nat) : Int) < 16 := by omega
      have R := HP.out wr av cv (by have := HO.out; rwa [List.take_of_length_le (by omega)] at this) HBe.out
      clear HP HO HBe
      go_wp2
      exact R
end
section
open Go.RowKit

/-- A slot's bytes in memory. -/
structure Dt (w : World) (s : Sm) : Prop where
  by_ : Bytes w s.a s.b.length s.b
  nil : s.a = none → s.c = 0
  cap : s.b.length ≤ s.c
theorem Dt.on {w w' : World} {s : Sm} (h : Dt w s) (hb : Below w.heap.size w w') : Dt w' s := ⟨h.by_.later hb, h.nil, h.cap⟩
/-- Slots that have their sectors. -/
def Fit (l : List Sm) : Prop := ∀ s ∈ l, s.f < 256 ∧ s.m < 256 ∧ s.b.length ≤ 2000 ∧ s.m = needS s.b.length
theorem Fit.small {l : List Sm} (h : Fit l) : Small l := fun s hs => by
  obtain ⟨h1, h2, h3, _⟩ := h s hs
  exact ⟨h1, h2, by omega⟩
def secAt (l : List Sm) (i : Nat) : Option (List Int) := if i < 2 then some (secP (hdrL l) i) else (l.find? (fun s => covers s.sp i)).map (fun s => secP s.b (i - s.f))
def AtSay (l : List Sm) (i : Nat) (w : World) (e : Ending) (w' : World) : Prop := Below w.heap.size w w' ∧ ((secAt l i = none ∧ e = .returned (.slice none 0 0)) ∨ ∃ p b, secAt l i = some b ∧ w.heap.size ≤ p ∧ e = .returned (.slice (some ⟨p, 0, none⟩) 32 32) ∧ Row w' p b)
/-- The two boxes of the closure. -/
structure Bx (w : World) (hb rb g : Nat) (a : Option Addr) (c : Nat) (l : List Sm) : Prop where
  h : w.heap[hb]? = some (.cells #[.slice a 64 c] 25 (0, 0))
  r : w.heap[rb]? = some (.cells #[.pointer (some ⟨g, 0, none⟩)] 36 (0, 0))
  by_ : Bytes w a 64 (hdrL l)
  cap : 64 ≤ c
theorem Bx.on {w w' : World} {hb rb g : Nat} {a : Option Addr} {c : Nat} {l : List Sm} (H : Bx w hb rb g a c l) (hB : Below w.heap.size w w') : Bx w' hb rb g a c l :=
  ⟨(hB.block hb (Array.getElem?_eq_some_iff.1 H.h).1).trans H.h, (hB.block rb (Array.getElem?_eq_some_iff.1 H.r).1).trans H.r, H.by_.later hB, H.cap⟩
set_option maxHeartbeats 1000000 in
theorem bytesAt_c (g : Nat) (x z : Int) (l : List Sm) (w : World) (H : RB w g x z l) (hI : Fit l) :
    Calls Try.prog 45 #[.pointer (some ⟨g, 0, none⟩)] w fun e w' => Below w.heap.size w w' ∧ ∃ hb rb a c, e = .returned (.func (.func 51) #[] #[.pointer (some ⟨hb, 0, none⟩), .pointer (some ⟨rb, 0, none⟩)]) ∧ Bx w' hb rb g a c l := by
  obtain ⟨Post, hPost⟩ : ∃ Post : Ending → World → Prop, Post = fun e w' => Below w.heap.size w w' ∧ ∃ hb rb a c, e = .returned (.func (.func 51) #[] #[.pointer (some ⟨hb, 0, none⟩), .pointer (some ⟨rb, 0, none⟩)]) ∧ Bx w' hb rb g a c l := ⟨_, rfl⟩
  rw [← hPost]
  have HP : Hid (∀ w' hb rb a c, Bx w' hb rb g a c l → Below w.heap.size w w' → Post (.returned (.func (.func 51) #[] #[.pointer (some ⟨hb, 0, none⟩), .pointer (some ⟨rb, 0, none⟩)])) w') := fun w' hb rb a c h1 h2 => by rw [hPost]; exact ⟨h2, hb, rb, a, c, rfl, h1⟩
  clear hPost
  have HB : Hid (RB w g x z l) := H
  have HI : Hid (Fit l) := hI
  have Hn : Hid (l.length = 16) := H.n
  clear H hI
  have hb1 : Below w.heap.size w (w.alloc (.cells #[.pointer (some ⟨g, 0, none⟩)] 36)) := (Below.refl _ _).alloc (Nat.le_refl _) _
  have HB1 : Hid (RB (w.alloc (.cells #[.pointer (some ⟨g, 0, none⟩)] 36)) g x z l) := HB.out.on hb1
  have Hb1 : Hid (Below w.heap.size w (w.alloc (.cells #[.pointer (some ⟨g, 0, none⟩)] 36))) := hb1
  have Hr1 : Hid ((w.alloc (.cells #[.pointer (some ⟨g, 0, none⟩)] 36)).heap[w.heap.size]? = some (.cells #[.pointer (some ⟨g, 0, none⟩)] 36 (0, 0))) := heap_alloc_new w _
  clear hb1 HB
  go_enter Try.func45, Try.ntmps45
  go_wp2_with fail
  generalize w.alloc (.cells #[.pointer (some ⟨g, 0, none⟩)] 36) = w1 at *
  refine (header_c g x z l w1 HB1.out HI.out.small).mono ?_
  rintro _ w2 ⟨hb2, a, c, rfl, hO⟩
  have hlen : (hdrL l).length = 64 := by rw [hdrL_len, Hn.out]
  have hby : Bytes w2 a 64 (hdrL l) := hO.bytes (hdrL_fit HI.out.small) 64 hlen
  have hcap : 64 ≤ c := by
    rcases hO.parts with ⟨_, _, e⟩ | ⟨_, _, _, _, _, _, h⟩
    · rw [e] at hlen; simp at hlen
    · omega
  have hr2 : w2.heap[w.heap.size]? = some (.cells #[.pointer (some ⟨g, 0, none⟩)] 36 (0, 0)) := (hb2.block w.heap.size (Array.getElem?_eq_some_iff.1 Hr1.out).1).trans Hr1.out
  have hlt : w.heap.size < w2.heap.size := (Array.getElem?_eq_some_iff.1 hr2).1
  have hb12 := Hb1.out.trans (hb2.mono Hb1.out.size)
  have hb3 : Below w2.heap.size w2 (w2.alloc (.cells #[.slice a 64 c] 25)) := (Below.refl _ _).alloc (Nat.le_refl _) _
  have R := HP.out (w2.alloc (.cells #[.slice a 64 c] 25)) w2.heap.size w.heap.size a c ⟨heap_alloc_new w2 _, (hb3.block w.heap.size hlt).trans hr2, hby.later hb3, hcap⟩ (hb12.alloc hb12.size _)
  have hmf : ∀ w', (Instr.makeFunc (.func 51) #[] #[.pointer (some ⟨w2.heap.size, 0, none⟩), .pointer (some ⟨w.heap.size, 0, none⟩)]).run Try.prog w' = .ok (.func (.func 51) #[] #[.pointer (some ⟨w2.heap.size, 0, none⟩), .pointer (some ⟨w.heap.size, 0, none⟩)]) w' := fun w' => by rfl
  clear HP hby hcap hr2 hb12 hb3 hO hb2 HB1 Hb1 Hr1 hlen
  go_wp2
  exact R
set_option maxHeartbeats 1000000 in
theorem at_c (i hb rb g : Nat) (x z : Int) (a : Option Addr) (c : Nat) (l : List Sm) (w : World) (H : RB w g x z l) (hI : Fit l) (hD : ∀ s ∈ l, Dt w s) (hX : Bx w hb rb g a c l) (hi : i < 40) :
    Calls Try.prog 51 #[.int .i64 (i : Int), .pointer (some ⟨hb, 0, none⟩), .pointer (some ⟨rb, 0, none⟩)] w (AtSay l i w) := by
  obtain ⟨Post, hPost⟩ : ∃ Post : Ending → World → Prop, Post = AtSay l i w := ⟨_, rfl⟩
  rw [← hPost]
  have HPn : Hid (secAt l i = none → ∀ w', Below w.heap.size w w' → Post (.returned (.slice none 0 0)) w') := fun h1 w' h2 => by rw [hPost]; exact ⟨h2, .inl ⟨h1, rfl⟩⟩
  have HPs : Hid (∀ p b, secAt l i = some b → w.heap.size ≤ p → ∀ w', Row w' p b → Below w.heap.size w w' → Post (.returned (.slice (some ⟨p, 0, none⟩) 32 32)) w') := fun p b h1 h2 w' h3 h4 => by rw [hPost]; exact ⟨h4, .inr ⟨p, b, h1, h2, rfl, h3⟩⟩
  clear hPost
  have hc0 : w.cell? ⟨hb, 0, none⟩ = some (.slice a 64 c) := by rw [cell_of_row w hb 0 _ 25 (0, 0) hX.h]; rfl
  have hr0 : w.cell? ⟨rb, 0, none⟩ = some (.pointer (some ⟨g, 0, none⟩)) := by rw [cell_of_row w rb 0 _ 36 (0, 0) hX.r]; rfl
  have HX : Hid (Bytes w a 64 (hdrL l) ∧ 64 ≤ c) := ⟨hX.by_, hX.cap⟩
  have HB : Hid (RB w g x z l) := H
  have HI : Hid (Fit l) := hI
  have HD : Hid (∀ s ∈ l, Dt w s) := hD
  obtain ⟨Z, hZ⟩ : ∃ Z, Z = smvs l := ⟨_, rfl⟩
  have HZ : Hid (Z = smvs l) := hZ
  clear H hZ hI hD hX
  by_cases h2 : i < 2
  · have h2' : (i : Int) < 2 := by omega
    have Hs : Hid (secAt l i = some (secP (hdrL l) i)) := by show _ = _; unfold secAt; rw [if_pos h2]
    clear HPn
    go_enter Try.func51, Try.ntmps51
    go_wp2_with fail
    refine (sector_c a 64 c i (hdrL l) w HX.out.1 (by omega) (by omega) HX.out.2).mono ?_
    rintro _ w1 ⟨rfl, hR, hb1⟩
    have R := HPs.out _ _ Hs.out (Nat.le_refl _) w1 hR hb1
    clear HPs hR hb1
    go_wp2
    exact R
  · have h2' : ¬ (i : Int) < 2 := by omega
    have Hs : Hid (secAt l i = (l.find? (fun s => covers s.sp i)).map (fun s => secP s.b (i - s.f))) := by show _ = _; unfold secAt; rw [if_neg h2]
    go_enter Try.func51, Try.ntmps51
    go_wp2_with (refine wpList_load_mid rfl 71 (.tmp 15) rfl g 2 rfl Z _ (by rw [HZ.out]; exact HB.out.range) Try.underlying71 rfl (by rw [HZ.out, smvs_len, HB.out.n]; exact size71) ?_)
    go_loopw [17] (fun v wr => ∃ (j : Nat), j ≤ 16 ∧ v = .int .i64 (j : Int) ∧ Hid (∀ s ∈ l.take j, covers s.sp i = false) ∧ Hid (Below w.heap.size w wr)) (fun v _ => 16 - (intOf v).toNat)
    case atStart => exact ⟨0, Nat.zero_le _, by go_num, fun s hs => by simp at hs, Below.refl _ _⟩
    case round =>
      obtain ⟨j, hj, rfl, HN, HBe⟩ := hrel
      have hn := HB.out.n
      by_cases hlt : j < 16
      · have hlt' : (j : Int) < 16 := by omega
        have hjl : j < l.length := by omega
        have hix := ix71 j hjl hn
        rw [← HZ.out] at hix
        obtain ⟨hF, hM, hL, hm⟩ := HI.out l[j] (List.getElem_mem _)
        obtain ⟨hB, hnil, hcap⟩ := HD.out l[j] (List.getElem_mem _)
        have HYes : Hid (covers l[j].sp i = true → secAt l i = some (secP l[j].b (i - l[j].f))) := fun hc => by
          rw [Hs.out]
          have : l.find? (fun s => covers s.sp i) = some l[j] := by
            rw [List.find?_eq_some_iff_append]
            refine ⟨hc, l.take j, l.drop (j + 1), ?_, fun s hs => by rw [HN.out s hs]; rfl⟩
            rw [← List.drop_eq_getElem_cons hjl, List.take_append_drop]
          rw [this]
          rfl
        have HNo : Hid (covers l[j].sp i = false → ∀ s ∈ l.take (j + 1), covers s.sp i = false) := fun hc s hs => by
          rw [List.take_succ_eq_append_getElem hjl] at hs
          rcases List.mem_append.1 hs with h | h
          · exact HN.out s h
          · rw [List.mem_singleton.1 h]; exact hc
        have ecov : covers l[j].sp i = decide (l[j].f ≤ i ∧ i < l[j].f + l[j].m) := rfl
        rw [ecov] at HYes HNo
        clear ecov
        generalize l[j].f = F at *
        generalize l[j].m = M at *
        generalize l[j].a = A at *
        generalize l[j].c = C at *
        generalize l[j].b = bs at *
        obtain ⟨N, hN⟩ : ∃ N, N = bs.length := ⟨_, rfl⟩
        rw [← hN] at hix hL hm hB hcap
        have HBy : Hid (Bytes w A N bs) := hB
        clear hB hN
        have Hb2 : Hid (Below w.heap.size w (wr.alloc (.cells #[.int .i64 (F : Int), .int .i64 (M : Int), .slice A N C] 70))) := HBe.out.alloc HBe.out.size _
        unfold needS at hm
        have Hm : Hid (M = (N + 31) / 32) := hm
        clear hm
        by_cases hc : F ≤ i
        · obtain ⟨K0, hK0⟩ : ∃ K0 : Nat, K0 = i - F := ⟨_, rfl⟩
          have hk : (i : Int) - (F : Int) = (K0 : Int) := by omega
          have HK0 : Hid (K0 = i - F) := hK0
          have hK1 : K0 < 40 := by omega
          clear hK0
          by_cases hd : i < F + M
          · have hd' : (K0 : Int) < (M : Int) := by have := HK0.out; omega
            have hy := HYes.out (decide_eq_true ⟨hc, hd⟩)
            rw [← HK0.out] at hy
            have HW : Hid (Bytes (wr.alloc (.cells #[.int .i64 (F : Int), .int .i64 (M : Int), .slice A N C] 70)) A N bs) := (HBy.out.later Hb2.out)
            have HPs2 : Hid (∀ p, w.heap.size ≤ p → ∀ w', Row w' p (secP bs K0) → Below w.heap.size w w' → Post (.returned (.slice (some ⟨p, 0, none⟩) 32 32)) w') := fun p h1 w' h2 h3 => HPs.out p _ hy h1 w' h2 h3
            clear HPs HPn HYes HNo hy hc hd
            go_wp2_with fail
            generalize wr.alloc (.cells #[.int .i64 (F : Int), .int .i64 (M : Int), .slice A N C] 70) = w2 at *
            refine (sector_c A N C K0 bs w2 HW.out (by have := Hm.out; omega) (by omega) hcap).mono ?_
            rintro _ w3 ⟨rfl, hR, hb3⟩
            have R := HPs2.out _ Hb2.out.size w3 hR (Hb2.out.trans (hb3.mono Hb2.out.size))
            clear HPs2 hR hb3 HW
            go_wp2
            exact R
          · have hd' : ¬ (K0 : Int) < (M : Int) := by have := HK0.out; omega
            have Hn2 : Hid (∀ s ∈ l.take (j + 1), covers s.sp i = false) := HNo.out (decide_eq_false (by omega))
            clear HPs HPn HYes HNo hc hd HBe
            go_wp2
            go_roundw
            case rel => exact ⟨j + 1, by omega, by go_num, Hn2, Hb2⟩
            case measure => simp [intOf]; omega
        · obtain ⟨K0, hK0⟩ : ∃ K0 : Int, K0 = (i : Int) - (F : Int) := ⟨_, rfl⟩
          have hk : (i : Int) - (F : Int) = K0 := hK0.symm
          have hneg : ¬ 0 ≤ K0 := by omega
          have hlo : -1000 ≤ K0 := by omega
          have Hn2 : Hid (∀ s ∈ l.take (j + 1), covers s.sp i = false) := HNo.out (decide_eq_false (by omega))
          clear HPs HPn HYes HNo hc HBe hK0
          go_wp2
          go_roundw
          case rel => exact ⟨j + 1, by omega, by go_num, Hn2, Hb2⟩
          case measure => simp [intOf]; omega
      · obtain rfl : j = 16 := by omega
        have hge : ¬ ((16 : Nat) : Int) < 16 := by omega
        have R := HPn.out (by
          rw [Hs.out]
          have : l.find? (fun s => covers s.sp i) = none := by
            rw [List.find?_eq_none]
            intro s hs
            rw [HN.out s (by rwa [List.take_of_length_le (by omega)])]
            decide
          rw [this]
          rfl) wr HBe.out
        clear HPn HPs HN HBe Hs
        go_wp2
        exact R
end
section
open Go.RowKit

/-- A plan's blocks in a slice of one's own. -/
def pbc (f : Fl) (o : Pb) : List Value := [.int .i64 f.1, .int .i64 f.2.1, .int .i64 f.2.2, .int .i64 (o.i : Int), .slice o.a 32 o.c]
def pbCells (f : Fl) (l : List Pb) : List Value := l.flatMap (pbc f)
theorem pbCells_len (f : Fl) (l : List Pb) : (pbCells f l).length = l.length * 5 := by
  induction l with
  | nil => rfl
  | cons x r ih =>
    show (pbc f x ++ pbCells f r).length = _
    rw [List.length_append, ih, List.length_cons]
    show 5 + _ = _
    omega
theorem pbCells_at (f : Fl) : ∀ (l : List Pb) (k j : Nat) (h : k < l.length), j < 5 → (pbCells f l)[k * 5 + j]? = (pbc f l[k])[j]?
  | [], k, _, h, _ => absurd h (Nat.not_lt_zero _)
  | p :: r, 0, j, _, hj => by
    show (pbc f p ++ pbCells f r)[0 * 5 + j]? = _
    rw [Nat.zero_mul, Nat.zero_add, List.getElem?_append_left (by simpa [pbc] using hj)]
    rfl
  | p :: r, k + 1, j, h, hj => by
    show (pbc f p ++ pbCells f r)[(k + 1) * 5 + j]? = _
    rw [List.getElem?_append_right (by simp [pbc]; omega)]
    have : (k + 1) * 5 + j - (pbc f p).length = k * 5 + j := by simp [pbc]; omega
    rw [this]
    exact pbCells_at f r k j (by simpa using h) hj
def OwnPb (w : World) (lo : Nat) (a : Option Addr) (c : Nat) (f : Fl) (l : List Pb) : Prop := w.ownsRow lo 83 5 (.slice a l.length c) l.length (pbCells f l)
theorem info83 : (Try.prog.info? 83).map (fun i => (i.zero, i.size, i.bytes)) = some (some (.agg #[.int .i64 0, .int .i64 0, .int .i64 0, .int .i64 0, .slice none 0 0]), 5, 56) := by kernel_rfl
/-- The bytes of each block. -/
def PbRows (B : Nat) (w : World) (l : List Pb) : Prop := ∀ p ∈ l, ∃ q, B ≤ q ∧ p.a = some ⟨q, 0, none⟩ ∧ Row w q p.b ∧ p.c = 32
theorem PbRows.on {B : Nat} {w w' : World} {l : List Pb} (H : PbRows B w l) (hb : Below w.heap.size w w') : PbRows B w' l := fun p hp => by
  obtain ⟨q, h1, h2, h3, h4⟩ := H p hp
  exact ⟨q, h1, h2, h3.below hb h3.lt, h4⟩
theorem PbRows.grown {B lo : Nat} {w w' : World} {l : List Pb} (H : PbRows B w l) {v : Value} {n : Nat} {xs : List Value} (ho : w.ownsRow lo 83 5 v n xs) (hg : w.grownBy w' v.ownBlock) : PbRows B w' l := fun p hp => by
  obtain ⟨q, h1, h2, h3, h4⟩ := H p hp
  refine ⟨q, h1, h2, ?_, h4⟩
  unfold Row
  rw [hg.block q h3.lt ?_]
  · exact h3
  · intro e
    rcases ho.2 with ⟨hv, _⟩ | ⟨g, cap, cur, hv, _, hh, _⟩
    · rw [hv] at e; cases e
    · rw [hv] at e
      obtain rfl : q = g := by simpa [Value.ownBlock] using e
      unfold Row at h3
      rw [hh] at h3
      simp at h3
theorem OwnPb.nil (w : World) (B : Nat) (f : Fl) : OwnPb w B none 0 f [] := World.ownsRow_nil w B 83 5
theorem OwnPb.later {w w' : World} {B : Nat} {a : Option Addr} {c : Nat} {f : Fl} {l : List Pb} (h : OwnPb w B a c f l) (hb : Below w.heap.size w w') : OwnPb w' B a c f l := by
  refine ⟨h.1, ?_⟩
  rcases h.2 with h2 | ⟨g, cap, cur, hv, hg, hh, r⟩
  · exact .inl h2
  · exact .inr ⟨g, cap, cur, hv, hg, by rw [hb.block g (Array.getElem?_eq_some_iff.1 hh).1]; exact hh, r⟩
theorem wpList_append_pb {w : World} {ops : Array Oper} {rest : List Oper} {o : Oper} {a : Act} {Q : Exit → Act → World → Prop} (hgd : o.guard = none) (s x : Operand)
    (ho : o.op = .call { callee := .builtin .append, args := #[s, x], argTypes := #[46, 46] }) (B : Nat) (f : Fl) (av : Option Addr) (n cv : Nat) (L : List Pb) (hn : L.length = n) (hs : a.eval s = .slice av n cv) (hown : OwnPb w B av cv f L)
    (q : Nat) (p : Pb) (hx : a.eval x = .slice (some ⟨q, 0, none⟩) 1 1) (hX : w.heap[q]? = some (.cells (pbc f p).toArray 83 (0, 0))) (hle : n ≤ 1000) (w0 : World) (hb : Below B w0 w) (hB : B ≤ w.heap.size) (B' : Nat) (R : List Pb) (hR : PbRows B' w R)
    (h : ∀ a' c' w', Hid (OwnPb w' B a' c' f (L ++ [p])) → Below B w0 w' → Hid (PbRows B' w' R) → wpList Try.prog ops Q rest (a.put o.dst (.slice a' (n + 1) c')) w') : wpList Try.prog ops Q (o :: rest) a w := by
  obtain ⟨i, hi, hz0, hz1, hz2⟩ := info_parts info83
  subst hn
  refine wpList_append_own w hgd s x 46 ho B 83 i (.agg #[.int .i64 0, .int .i64 0, .int .i64 0, .int .i64 0, .slice none 0 0]) 5 56 Try.underlying46 hi hz0 hz1 hz2 rfl (by decide) _ _ _ hs hown ⟨q, 0, none⟩ 1 1 (pbc f p) hx rfl ?_ (fun u hu => by
    simp only [pbc, List.mem_cons, List.not_mem_nil, or_false] at hu
    rcases hu with rfl | rfl | rfl | rfl | rfl <;> rfl) (by unfold maxLen; omega) (by omega) hB ?_
  · intro j u hj
    rw [Addr.add_mid, Nat.zero_add, cell_of_row w q j _ 83 (0, 0) hX, List.getElem?_toArray]
    exact hj
  · intro v' w' h1 h2 _
    have hb' : Below B w0 w' := hb.grown h2 hB (fun k hk => (World.ownsRow.lt hown k hk).1)
    have e : ∃ a' c', v' = .slice a' (L.length + 1) c' := by
      rcases h1.2 with ⟨hv, hn⟩ | ⟨g, cap, _, hv, _⟩
      · exact ⟨none, 0, by rw [hv, hn]⟩
      · exact ⟨_, _, hv⟩
    obtain ⟨a', c', rfl⟩ := e
    refine h a' c' w' ?_ hb' (hR.grown hown h2)
    show OwnPb _ _ _ _ _ _
    unfold OwnPb
    have e2 : pbCells f (L ++ [p]) = pbCells f L ++ pbc f p := by simp [pbCells]
    rw [List.length_append, e2]
    exact h1
/-- Which blocks a plan writes. -/
def blkL (l : List Sm) (n : Nat) : List (Nat × List Int) := (List.range n).filterMap fun i => (secAt l i).map fun b => (i, b)
theorem blkL_next (l : List Sm) (n : Nat) : blkL l (n + 1) = blkL l n ++ ((secAt l n).map fun b => (n, b)).toList := by
  unfold blkL
  rw [List.range_succ, List.filterMap_append]
  cases h : secAt l n <;> simp [h]
set_option maxHeartbeats 1000000 in
theorem blocks_c (g : Nat) (x z : Int) (l : List Sm) (w : World) (H : RB w g x z l) (hI : Fit l) (hD : ∀ s ∈ l, Dt w s) :
    Calls Try.prog 36 #[.pointer (some ⟨g, 0, none⟩)] w fun e w' => Below w.heap.size w w' ∧ ∃ a c ps, e = .returned (.slice a ps.length c) ∧ OwnPb w' w.heap.size a c (2, x, z) ps ∧ PbRows w.heap.size w' ps ∧ ps.map (fun p => (p.i, p.b)) = blkL l 40 := by
  obtain ⟨Post, hPost⟩ : ∃ Post : Ending → World → Prop, Post = fun e w' => Below w.heap.size w w' ∧ ∃ a c ps, e = .returned (.slice a ps.length c) ∧ OwnPb w' w.heap.size a c (2, x, z) ps ∧ PbRows w.heap.size w' ps ∧ ps.map (fun p => (p.i, p.b)) = blkL l 40 := ⟨_, rfl⟩
  rw [← hPost]
  have HP : Hid (∀ w' a c ps, OwnPb w' w.heap.size a c (2, x, z) ps → PbRows w.heap.size w' ps → ps.map (fun p => (p.i, p.b)) = blkL l 40 → Below w.heap.size w w' → Post (.returned (.slice a ps.length c)) w') := fun w' a c ps h1 h2 h3 h4 => by rw [hPost]; exact ⟨h4, a, c, ps, rfl, h1, h2, h3⟩
  clear hPost
  have HB : Hid (RB w g x z l) := H
  have HI : Hid (Fit l) := hI
  have HD : Hid (∀ s ∈ l, Dt w s) := hD
  clear H hI hD
  go_enter Try.func36, Try.ntmps36
  go_wp2_with fail
  refine (bytesAt_c g x z l w HB.out HI.out).mono ?_
  rintro _ w1 ⟨hb1, hb, rb, ha, hc, rfl, hX⟩
  have HX1 : Hid (Bx w1 hb rb g ha hc l) := hX
  have HB1 : Hid (RB w1 g x z l) := HB.out.on hb1
  have HD1 : Hid (∀ s ∈ l, Dt w1 s) := fun s hs => (HD.out s hs).on hb1
  have Hb1 : Hid (Below w.heap.size w w1) := hb1
  clear hX hb1 HB HD
  go_wp2_with fail
  go_loopw [3, 9] (fun s v wr => ∃ (j : Nat) (av : Option Addr) (n cv : Nat) (ps : List Pb), j ≤ 40 ∧ v = .int .i64 (j : Int) ∧ s = .slice av n cv ∧ n ≤ j ∧ Hid (ps.length = n) ∧ Hid (OwnPb wr w1.heap.size av cv (2, x, z) ps) ∧ Hid (PbRows w1.heap.size wr ps) ∧ Hid (ps.map (fun p => (p.i, p.b)) = blkL l j) ∧ Hid (Below w1.heap.size w1 wr)) (fun _ v _ => 40 - (intOf v).toNat)
  case atStart => exact ⟨0, none, 0, 0, [], Nat.zero_le _, by go_num, rfl, Nat.le_refl _, rfl, OwnPb.nil _ _ _, fun p hp => by simp at hp, rfl, Below.refl _ _⟩
  case round =>
    obtain ⟨j, av, n, cv, ps, hj, rfl, rfl, hnj, Hn, HO, HR, HL, HBe⟩ := hrel
    by_cases hlt : j < 40
    · have hlt' : (j : Int) < 40 := by omega
      have HX : Hid (Bx wr hb rb g ha hc l) := HX1.out.on HBe.out
      have HBw : Hid (RB wr g x z l) := HB1.out.on HBe.out
      have HDw : Hid (∀ s ∈ l, Dt wr s) := fun s hs => (HD1.out s hs).on HBe.out
      go_wp2_with fail
      refine (at_c j hb rb g x z ha hc l wr HBw.out HI.out HDw.out HX.out hlt).mono ?_
      rintro _ w2 ⟨hb2, ⟨hs, rfl⟩ | ⟨p, b, hs, hp, rfl, hRow⟩⟩
      · have hne : (binOp .neq 25 (.slice none 0 0) (.slice none 0 0)).run Try.prog w2 = .ok (.bool false) w2 := by kernel_rfl
        have HO2 : Hid (OwnPb w2 w1.heap.size av cv (2, x, z) ps) := HO.out.later hb2
        have HR2 : Hid (PbRows w1.heap.size w2 ps) := HR.out.on hb2
        have HL2 : Hid (ps.map (fun p => (p.i, p.b)) = blkL l (j + 1)) := by show _ = _; rw [blkL_next, hs, HL.out]; simp
        have HBe2 : Hid (Below w1.heap.size w1 w2) := HBe.out.trans (hb2.mono HBe.out.size)
        clear hb2 hs HP HO HR HL HBe HX HBw HDw
        go_wp2
        go_roundw
        case rel => exact ⟨j + 1, av, n, cv, ps, by omega, by go_num, rfl, by omega, Hn, HO2, HR2, HL2, HBe2⟩
        case measure => simp [intOf]; omega
      · have hne : (binOp .neq 25 (.slice (some ⟨p, 0, none⟩) 32 32) (.slice none 0 0)).run Try.prog w2 = .ok (.bool true) w2 := by kernel_rfl
        have HO2 : Hid (OwnPb w2 w1.heap.size av cv (2, x, z) ps) := HO.out.later hb2
        have HR2 : Hid (PbRows w1.heap.size w2 (ps ++ [⟨j, b, some ⟨p, 0, none⟩, 32⟩])) := fun o ho => by
          rcases List.mem_append.1 ho with h | h
          · exact (HR.out.on hb2) o h
          · rw [List.mem_singleton.1 h]
            exact ⟨p, Nat.le_trans HBe.out.size hp, rfl, hRow, rfl⟩
        have HL2 : Hid ((ps ++ [(⟨j, b, some ⟨p, 0, none⟩, 32⟩ : Pb)]).map (fun p => (p.i, p.b)) = blkL l (j + 1)) := by show _ = _; rw [blkL_next, hs, List.map_append, HL.out]; rfl
        have HBe2 : Hid (Below w1.heap.size w1 w2) := HBe.out.trans (hb2.mono HBe.out.size)
        have HBw2 : Hid (RB w2 g x z l) := HBw.out.on hb2
        clear hb2 hs HP HO HR HL HBe HX HBw HDw hRow hp
        go_wp2_with fail
        refine (file_c g x z l w2 HBw2.out).mono ?_
        rintro _ w3 ⟨rfl, hb3⟩
        have HO3 : Hid (OwnPb (w3.alloc (.cells (pbc (2, x, z) ⟨j, b, some ⟨p, 0, none⟩, 32⟩).toArray 83)) w1.heap.size av cv (2, x, z) ps) := (HO2.out.later hb3).later ((Below.refl _ _).alloc (Nat.le_refl _) _)
        have HR3 : Hid (PbRows w1.heap.size (w3.alloc (.cells (pbc (2, x, z) ⟨j, b, some ⟨p, 0, none⟩, 32⟩).toArray 83)) (ps ++ [⟨j, b, some ⟨p, 0, none⟩, 32⟩])) := (HR2.out.on hb3).on ((Below.refl _ _).alloc (Nat.le_refl _) _)
        have hbe3 := HBe2.out.trans (hb3.mono HBe2.out.size)
        have HBe3 : Hid (Below w1.heap.size w1 (w3.alloc (.cells (pbc (2, x, z) ⟨j, b, some ⟨p, 0, none⟩, 32⟩).toArray 83))) := hbe3.alloc hbe3.size _
        have HA3 : Hid ((w3.alloc (.cells (pbc (2, x, z) ⟨j, b, some ⟨p, 0, none⟩, 32⟩).toArray 83)).heap[w3.heap.size]? = some (.cells (pbc (2, x, z) ⟨j, b, some ⟨p, 0, none⟩, 32⟩).toArray 83 (0, 0))) := heap_alloc_new w3 _
        clear hb3 HO2 HR2 HBe2 HBw2 hbe3
        have hn1 : n ≤ 1000 := by omega
        go_wp2_with (at_builtin; go_loud (refine wpList_append_pb rfl _ _ rfl w1.heap.size (2, x, z) av n cv ps Hn.out rfl HO3.out w3.heap.size ⟨j, b, some ⟨p, 0, none⟩, 32⟩ rfl HA3.out hn1 w1 HBe3.out HBe3.out.size w1.heap.size _ HR3.out ?_); intro a' c' w' HO' Hb' HR')
        go_roundw
        case rel => exact ⟨j + 1, a', n + 1, c', _, by omega, by go_num, rfl, by omega, by show _ = _; rw [List.length_append, Hn.out]; rfl, HO', HR', HL2, Hb'⟩
        case measure => simp [intOf]; omega
    · obtain rfl : j = 40 := by omega
      have hge : ¬ ((40 : Nat) : Int) < 40 := by omega
      have R := HP.out wr av cv ps (by
        refine ⟨HO.out.1, ?_⟩
        rcases HO.out.2 with h | ⟨b, cap, cur, hv, hb, r⟩
        · exact .inl h
        · exact .inr ⟨b, cap, cur, hv, Nat.le_trans Hb1.out.size hb, r⟩) (fun p hp => by
        obtain ⟨q, h1, h2⟩ := HR.out p hp
        exact ⟨q, Nat.le_trans Hb1.out.size h1, h2⟩) HL.out (Hb1.out.trans (HBe.out.mono Hb1.out.size))
      rw [Hn.out] at R
      clear HP HO HR HL HBe
      go_wp2
      exact R
end
end Go.Proofs.Ytdjhlpllffakpaa
