/-
  LadderWorld, walked over any ladder package that keeps what is asked.
-/
import Derived.Test.YtokjbjfpgjincaaLstays
set_option maxRecDepth 20000
namespace Go.Proofs.Ytokjbjfpgjincaa
open Go.RowKit

/-! ### chunks, each once -/
abbrev Pt : Type := Int × Int
def ddS (acc : List Pt) (p : Pt) : List Pt := if p ∈ acc then acc else acc ++ [p]
def dd (l : List Pt) : List Pt := l.foldl ddS []
theorem dd_snoc (l : List Pt) (p : Pt) : dd (l ++ [p]) = ddS (dd l) p := by unfold dd; rw [List.foldl_append]; rfl
theorem dd_new : ∀ (l acc : List Pt), (acc ++ l).Nodup → l.foldl ddS acc = acc ++ l
  | [], acc, _ => by simp
  | p :: l, acc, h => by
    have hp : ¬ p ∈ acc := fun hm => (List.nodup_append.1 h).2.2 p hm p (by simp) rfl
    rw [List.foldl_cons, ddS, if_neg hp, dd_new l (acc ++ [p]) (by simpa using h)]
    simp
theorem dd_old : ∀ (l acc : List Pt), (∀ p ∈ l, p ∈ acc) → l.foldl ddS acc = acc
  | [], _, _ => rfl
  | p :: l, acc, h => by
    rw [List.foldl_cons, ddS, if_pos (h p (by simp))]
    exact dd_old l acc (fun q hq => h q (List.mem_cons_of_mem _ hq))
theorem ddS_len (acc : List Pt) (p : Pt) : (ddS acc p).length ≤ acc.length + 1 := by
  unfold ddS
  split
  · omega
  · simp
theorem dd_len (l : List Pt) : (dd l).length ≤ l.length := by
  have key : ∀ (l acc : List Pt), (l.foldl ddS acc).length ≤ acc.length + l.length := by
    intro l
    induction l with
    | nil => intro acc; simp
    | cons p l ih =>
      intro acc
      have := ih (ddS acc p)
      have := ddS_len acc p
      rw [List.foldl_cons, List.length_cons]
      omega
  have := key l []
  simpa [dd] using this
theorem world_tasks (x z : Int) : (tasksL worldLad 5 x z).length = 78 := by
  have h := tasksF_len x z (radL worldLad 5) 0 (fun r hr => (radL_rng hr).2)
  rw [world_c5] at h
  have e : (tasksL worldLad 5 x z).length = (tasksF x z 0 (radL worldLad 5)).length := rfl
  omega
theorem world_chunks (x z : Int) : (dd ((tasksL worldLad 5 x z).map (·.2))).length = 25 := by
  unfold tasksL
  rw [world_r5, tasksF, List.map_append, List.map_map]
  have e : (nrL x z 2).map ((fun t : Tk => t.2) ∘ tkOf ((0 : Nat) : Int)) = nrL x z 2 := by
    conv => rhs; rw [← List.map_id (nrL x z 2)]
    exact List.map_congr_left (fun p _ => rfl)
  rw [e]
  unfold dd
  rw [List.foldl_append, dd_new (nrL x z 2) [] (by simpa using nrL_nodup x z 2), List.nil_append, dd_old]
  · have := nrL_len x z 2 (by omega) (by omega)
    have h2 : cap1 2 = 25 := by decide
    omega
  · intro p hp
    obtain ⟨⟨s, a, b⟩, ht, rfl⟩ := List.mem_map.1 hp
    obtain ⟨j, hj, hab⟩ := tasksF_mem.1 ht
    obtain ⟨⟨h0, h8⟩, c1, c2, c3, c4⟩ := nrL_mem.1 hab
    have h2 : gt [2, 1, 1, 1, 0] j ≤ 2 := by
      match j with
      | 0 => decide
      | 1 => decide
      | 2 => decide
      | 3 => decide
      | 4 => decide
      | j + 5 => simp [gt]
    exact nrL_mem.2 ⟨⟨by omega, by omega⟩, by omega, by omega, by omega, by omega⟩
/-- On the way: the chunks so far. -/
structure Ch (w4 : World) (a : Option Addr) (c n : Nat) (ch : List Pt) (wr : World) : Prop where
  own : OwnA wr w4.heap.size a c ch
  len : ch.length = n
  bel : Below w4.heap.size w4 wr
theorem mem_take_succ {ch : List Pt} {k : Nat} (h : k < ch.length) (p : Pt) : p ∈ ch.take (k + 1) ↔ p ∈ ch.take k ∨ ch[k] = p := by
  rw [List.take_succ_eq_append_getElem h, List.mem_append, List.mem_singleton]
  exact ⟨fun h => h.imp id Eq.symm, fun h => h.imp id Eq.symm⟩
set_option maxHeartbeats 4000000 in
theorem ladderWorld_walk (J : LSpec) (x z : Int) (w : World) :
    Calls Try.prog 7 #[.agg #[.int .i64 x, .int .i64 z]] w fun e w' => e = .returned (.bool true) ∧ Below w.heap.size w w' := by
  obtain ⟨Post, hPost⟩ : ∃ Post : Ending → World → Prop, Post = fun e w' => e = .returned (.bool true) ∧ Below w.heap.size w w' := ⟨_, rfl⟩
  rw [← hPost]
  have HP : Hid (∀ w', Below w.heap.size w w' → Post (.returned (.bool true)) w') := fun w' h => by rw [hPost]; exact ⟨rfl, h⟩
  clear hPost
  have Hb0 : Hid (Below w.heap.size w (w.alloc (.cells #[.int .i64 x, .int .i64 z] 31))) := (Below.refl _ _).alloc (Nat.le_refl _) _
  have HX0 : Hid ((w.alloc (.cells #[.int .i64 x, .int .i64 z] 31)).heap[w.heap.size]? = some (.cells #[.int .i64 x, .int .i64 z] 31 (0, 0))) := heap_alloc_new w _
  go_enter Try.func7, Try.ntmps7
  go_wp2_with fail
  have hsz : (w.alloc (.cells #[.int .i64 x, .int .i64 z] 31)).heap.size = w.heap.size + 1 := by simp
  generalize w.alloc (.cells #[.int .i64 x, .int .i64 z] 31) = w0 at *
  refine (awake_c J w0).mono ?_
  rintro _ w1 ⟨rfl, hb1⟩
  have Hb1 : Hid (Below w.heap.size w w1) := Hb0.out.trans (hb1.mono Hb0.out.size)
  have HX1 : Hid (w1.heap[w.heap.size]? = some (.cells #[.int .i64 x, .int .i64 z] 31 (0, 0))) := (hb1.block _ (by omega)).trans HX0.out
  clear hb1 HX0 Hb0
  go_wp2_with fail
  refine (J.world_ w1).mono ?_
  rintro _ w2 ⟨hb2, la, lc, L, rfl, hL, hlad⟩
  have Hb2 : Hid (Below w.heap.size w w2) := Hb1.out.trans (hb2.mono Hb1.out.size)
  have HX2 : Hid (w2.heap[w.heap.size]? = some (.cells #[.int .i64 x, .int .i64 z] 31 (0, 0))) := (hb2.block _ (Array.getElem?_eq_some_iff.1 HX1.out).1).trans HX1.out
  have HL : Hid (RgAt w2 la L) := hL
  have Hlad : Hid (lad L = worldLad) := hlad
  clear hb2 hL hlad HX1 Hb1
  go_wp2_with fail
  refine (rworld_c w2).mono ?_
  rintro _ w3 ⟨hb3, na, nc, N, rfl, hN, hnad⟩
  have Hb3 : Hid (Below w.heap.size w w3) := Hb2.out.trans (hb3.mono Hb2.out.size)
  have HX3 : Hid (w3.heap[w.heap.size]? = some (.cells #[.int .i64 x, .int .i64 z] 31 (0, 0))) := (hb3.block _ (Array.getElem?_eq_some_iff.1 HX2.out).1).trans HX2.out
  have HL3 : Hid (RgAt w3 la L) := HL.out.on hb3
  have HN3 : Hid (RgAt w3 na N) := hN
  have Hlen : Hid (L.length = 6 ∧ N.length = 6) := ⟨by rw [← lad_len, Hlad.out]; rfl, by rw [← lad_len, hnad]; rfl⟩
  have Heq : Hid (∀ i (h1 : i < L.length) (h2 : i < N.length), N[i].r = L[i].r) := fun i h1 h2 => by rw [← lad_at L i h1, ← lad_at N i h2, Hlad.out, hnad]
  have Hsm : Hid (∀ i (h1 : i < L.length), L[i].r.length ≤ 16) := fun i h1 => by
    have hi6 : i < 6 := by rw [← Hlen.out.1]; exact h1
    rw [← lad_at L i h1, Hlad.out]
    match i, hi6 with
    | 0, _ => decide
    | 1, _ => decide
    | 2, _ => decide
    | 3, _ => decide
    | 4, _ => decide
    | 5, _ => decide
  have y0 : w3.cell? ⟨w.heap.size, 0, none⟩ = some (.int .i64 x) := (cell_of_row w3 _ 0 _ 31 (0, 0) HX3.out).trans rfl
  have y1 : w3.cell? ⟨w.heap.size, 1, none⟩ = some (.int .i64 z) := (cell_of_row w3 _ 1 _ 31 (0, 0) HX3.out).trans rfl
  clear hb3 hN hnad HX2 Hb2 HL
  have R3 := HP.out w3 Hb3.out
  by_cases g1 : x < -1099511627776
  · clear HP
    go_wp2
    exact R3
  by_cases g2 : 1099511627776 < x
  · clear HP
    go_wp2
    exact R3
  by_cases g3 : z < -1099511627776
  · clear HP
    go_wp2
    exact R3
  by_cases g4 : 1099511627776 < z
  · clear HP
    go_wp2
    exact R3
  have Hx : Hid (Far 1099511627776 x) := ⟨by omega, by omega⟩
  have Hz : Hid (Far 1099511627776 z) := ⟨by omega, by omega⟩
  clear R3
  go_wp2_with fail
  clear y0 y1
  go_loopw [6] (fun v wr => ∃ (i : Nat), i ≤ 6 ∧ v = .int .i64 (i : Int) ∧ Hid (Below w3.heap.size w3 wr)) (fun v _ => 6 - (intOf v).toNat)
  case atStart => exact ⟨0, by omega, by go_num, Below.refl _ _⟩
  case round =>
    obtain ⟨i, hi, rfl, HBe⟩ := hrel
    by_cases hlt : i < 6
    · have hlt' : (i : Int) < 6 := by omega
      have h1 : i < L.length := by rw [Hlen.out.1]; exact hlt
      have h2 : i < N.length := by rw [Hlen.out.2]; exact hlt
      obtain ⟨lb, lo, rfl, hl⟩ := (HL3.out.on HBe.out) i h1
      obtain ⟨nb, no, rfl, hn⟩ := (HN3.out.on HBe.out) i h2
      have c0 := hl.c0
      have d0 := hn.c0
      have hr := Heq.out i h1 h2
      have h16 := Hsm.out i h1
      rw [hr] at d0
      have Hrl : Hid (RdAt wr L[i].a L[i].r) := hl.rd
      have Hrn : Hid (RdAt wr N[i].a L[i].r) := by have := hn.rd; rw [hr] at this; exact this
      clear hl hn hr
      generalize L[i].r = rs at *
      generalize L[i].a = ra at *
      generalize L[i].c = rc at *
      generalize N[i].a = sa at *
      generalize N[i].c = sc at *
      obtain ⟨m, hm⟩ : ∃ m, m = rs.length := ⟨_, rfl⟩
      have Hm : Hid (m = rs.length) := hm
      rw [← hm] at c0 d0 h16
      have Hc0 : Hid (wr.cell? ⟨lb, lo + i, none⟩ = some (.slice ra m rc)) := c0
      have Hd0 : Hid (wr.cell? ⟨nb, no + i, none⟩ = some (.slice sa m sc)) := d0
      clear hm HP
      go_wp2_with fail
      go_big_quiet (fail)
      obtain ⟨wo, hwo⟩ : ∃ wo, wo = wr := ⟨_, rfl⟩
      subst hwo
      have HB2 : Hid (Below wo.heap.size wo (wo.drewN nq)) := below_drewN (Below.refl _ _) nq
      clear c0 d0
      generalize wo.drewN nq = wd at *
      go_wp2_with fail
      go_loopw [7] (fun v wr => ∃ (j : Nat), j ≤ m ∧ v = .int .i64 (j : Int) ∧ Hid (Below wo.heap.size wo wr)) (fun v _ => m - (intOf v).toNat)
      case atStart => exact ⟨0, Nat.zero_le _, by go_num, HB2⟩
      case round =>
        clear HB2
        obtain ⟨j, hj, rfl, HBq⟩ := hrel
        have c0 := cell_below Hc0.out HBq.out
        have d0 := cell_below Hd0.out HBq.out
        by_cases hjm : j < m
        · have hjm' : (j : Int) < (m : Int) := by omega
          have hjl : j < rs.length := by rw [← Hm.out]; exact hjm
          obtain ⟨rb, ro, rfl, e1⟩ := (Hrl.out.on HBq.out) j hjl
          obtain ⟨sb, so, rfl, e2⟩ := (Hrn.out.on HBq.out) j hjl
          have p0 := e1.c0
          have p1 := e1.c1
          have q0 := e2.c0
          have q1 := e2.c1
          obtain ⟨⟨u0, u1⟩, hu⟩ : ∃ u, rs[j] = u := ⟨_, rfl⟩
          rw [hu] at p0 p1 q0 q1
          simp only at p0 p1 q0 q1
          clear e1 e2 hu
          go_wp2_with fail
          go_big_quiet (fail)
          have HB3 : Hid (Below wo.heap.size wo (wr.drewN nq)) := below_drewN HBq.out nq
          go_wp2
          go_roundw
          case rel => exact ⟨j + 1, by omega, by go_num, HB3⟩
          case measure => simp [intOf]; omega
        · obtain rfl : j = m := by omega
          have hge : ¬ (j : Int) < (j : Int) := by omega
          have HB3 : Hid (Below w3.heap.size w3 wr) := HBe.out.trans (HBq.out.mono HBe.out.size)
          go_wp2
          go_roundw
          case rel => exact ⟨i + 1, by omega, by go_num, HB3⟩
          case measure => simp [intOf]; omega
    · obtain rfl : i = 6 := by omega
      have hX := (HBe.out.block w.heap.size (Array.getElem?_eq_some_iff.1 HX3.out).1).trans HX3.out
      have y0 : wr.cell? ⟨w.heap.size, 0, none⟩ = some (.int .i64 x) := (cell_of_row wr _ 0 _ 31 (0, 0) hX).trans rfl
      have y1 : wr.cell? ⟨w.heap.size, 1, none⟩ = some (.int .i64 z) := (cell_of_row wr _ 1 _ 31 (0, 0) hX).trans rfl
      clear hX
      go_wp2_with fail
      clear y0 y1
      refine (J.tasks_ la 6 lc L 5 x z wr (HL3.out.on HBe.out) Hlen.out.1 (by unfold maxLen; omega) ⟨by omega, by omega⟩ Hx.out Hz.out).mono ?_
      rw [Hlad.out, world_tasks]
      rintro _ w4 ⟨hb4, ta, tc, rfl, hT⟩
      have HT : Hid (TksAt w4 ta (tasksL worldLad 5 x z)) := hT
      have Hb4 : Hid (Below w.heap.size w w4) := (Hb3.out.trans (HBe.out.mono Hb3.out.size)).trans (hb4.mono (Nat.le_trans Hb3.out.size HBe.out.size))
      have Htl : Hid ((tasksL worldLad 5 x z).length = 78) := world_tasks x z
      have H25 : Hid ((dd ((tasksL worldLad 5 x z).map (·.2))).length = 25) := world_chunks x z
      generalize tasksL worldLad 5 x z = T at *
      clear hb4 hT HBe HL3 HN3 Hlen Heq Hsm HX3 Hlad
      go_wp2_with fail
      go_loopw [9, 10] (fun v y wr => ∃ (i : Nat) (a' : Option Addr) (c' n' : Nat), y = .int .i64 (i : Int) ∧ i ≤ 78 ∧ v = .slice a' n' c' ∧ Hid (Ch w4 a' c' n' (dd ((T.take i).map (·.2))) wr)) (fun _ y _ => 78 - (intOf y).toNat)
      case atStart => exact ⟨0, none, 0, 0, by go_num, by omega, rfl, ⟨World.ownsRow_nil _ _ _ _, rfl, Below.refl _ _⟩⟩
      case round =>
        obtain ⟨i, a1, c1, n1, rfl, hi78, rfl, HC⟩ := hrel
        by_cases hlt2 : i < 78
        · have hlt2' : (i : Int) < 78 := by omega
          have hil : i < T.length := by rw [Htl.out]; exact hlt2
          obtain ⟨⟨s, p⟩, hsp⟩ : ∃ t, T[i] = t := ⟨_, rfl⟩
          have Hdd : Hid (dd ((T.take (i + 1)).map (·.2)) = ddS (dd ((T.take i).map (·.2))) p) := by
            show _ = _
            rw [List.take_succ_eq_append_getElem hil, List.map_append, List.map_singleton, dd_snoc, hsp]
          have hn1 : n1 ≤ 78 := by
            have := HC.out.len
            have h2 := dd_len ((T.take i).map (·.2))
            rw [List.length_map, List.length_take] at h2
            omega
          have Hti : Hid (T[i] = (s, p)) := hsp
          clear hsp HP
          generalize dd ((T.take i).map (·.2)) = ch at *
          go_wp2_with fail
          go_loopw [11, 12] (fun f v wr => ∃ (k : Nat) (hd : Bool), k ≤ n1 ∧ v = .int .i64 (k : Int) ∧ f = .bool hd ∧ Hid (hd = true ↔ p ∈ ch.take k) ∧ Hid (Ch w4 a1 c1 n1 ch wr)) (fun _ v _ => n1 - (intOf v).toNat)
          case atStart => exact ⟨0, false, Nat.zero_le _, by go_num, rfl, ⟨fun h => by simp at h, fun h => by simp at h⟩, HC⟩
          case round =>
            clear HC
            obtain ⟨k, hd, hk, rfl, rfl, HD, HC⟩ := hrel
            obtain ⟨tb, to, rfl, hcs⟩ := (HT.out.on HC.out.bel).at hil
            have q1 := (hcs i hil).c1
            have q2 := (hcs i hil).c2
            rw [Hti.out] at q1 q2
            simp only at q1 q2
            clear hcs
            obtain ⟨p0, p1⟩ := p
            simp only at q1 q2
            by_cases hkn : k < n1
            · have hkn' : (k : Int) < (n1 : Int) := by omega
              have hkl : k < ch.length := by rw [HC.out.len]; exact hkn
              have Hms := mem_take_succ hkl (p0, p1)
              have HMs : Hid ((p0, p1) ∈ ch.take (k + 1) ↔ (p0, p1) ∈ ch.take k ∨ ch[k] = (p0, p1)) := Hms
              clear Hms
              cases hd with
              | true =>
                have HD2 : Hid ((p0, p1) ∈ ch.take (k + 1)) := HMs.out.2 (.inl (HD.out.1 rfl))
                clear HMs HD
                go_wp2_with fail
                go_big_quiet (fail)
                have HC2 : Hid (Ch w4 a1 c1 n1 ch (wr.drewN nq)) := ⟨HC.out.own, HC.out.len, below_drewN HC.out.bel nq⟩
                clear HC
                go_wp2
                go_roundw
                case rel => exact ⟨k + 1, true, by omega, by go_num, rfl, ⟨fun _ => HD2.out, fun _ => rfl⟩, HC2⟩
                case measure => simp [intOf]; omega
              | false =>
                obtain ⟨cb, co, rfl, hcc⟩ : ∃ b off, a1 = some ⟨b, off, none⟩ ∧ ∀ k (h : k < ch.length), AtIn wr b off k ch[k] := by
                  rcases HC.out.own.ats with h | h
                  · rw [h] at hkl; simp at hkl
                  · exact h
                have r0 := (hcc k hkl).c0
                have r1 := (hcc k hkl).c1
                obtain ⟨⟨v0, v1⟩, hv⟩ : ∃ v, ch[k] = v := ⟨_, rfl⟩
                rw [hv] at r0 r1 HMs
                simp only at r0 r1
                clear hcc hv
                have HC2 : Hid (∀ nq, Ch w4 (some ⟨cb, co, none⟩) c1 n1 ch (wr.drewN nq)) := fun nq => ⟨HC.out.own, HC.out.len, below_drewN HC.out.bel nq⟩
                clear HC
                by_cases e0 : v0 = p0
                · by_cases e1 : v1 = p1
                  · subst e0 e1
                    have HD2 : Hid ((v0, v1) ∈ ch.take (k + 1)) := HMs.out.2 (.inr rfl)
                    clear HMs HD
                    go_wp2_with fail
                    go_big_quiet (fail)
                    have HC3 : Hid _ := HC2.out nq
                    clear HC2
                    go_wp2
                    go_roundw
                    case rel => exact ⟨k + 1, true, by omega, by go_num, rfl, ⟨fun _ => HD2.out, fun _ => rfl⟩, HC3⟩
                    case measure => simp [intOf]; omega
                  · subst e0
                    have HD2 : Hid (¬ (v0, p1) ∈ ch.take (k + 1)) := fun h => by
                      rcases HMs.out.1 h with h | h
                      · exact absurd (HD.out.2 h) (by simp)
                      · exact e1 (Prod.mk.inj h).2
                    clear HMs HD
                    go_wp2_with fail
                    go_big_quiet (fail)
                    have HC3 : Hid _ := HC2.out nq
                    clear HC2
                    go_wp2
                    go_roundw
                    case rel => exact ⟨k + 1, false, by omega, by go_num, rfl, ⟨fun h => by simp at h, fun h => absurd h HD2.out⟩, HC3⟩
                    case measure => simp [intOf]; omega
                · have HD2 : Hid (¬ (p0, p1) ∈ ch.take (k + 1)) := fun h => by
                    rcases HMs.out.1 h with h | h
                    · exact absurd (HD.out.2 h) (by simp)
                    · exact e0 (Prod.mk.inj h).1
                  clear HMs HD
                  go_wp2_with fail
                  go_big_quiet (fail)
                  have HC3 : Hid _ := HC2.out nq
                  clear HC2
                  go_wp2
                  go_roundw
                  case rel => exact ⟨k + 1, false, by omega, by go_num, rfl, ⟨fun h => by simp at h, fun h => absurd h HD2.out⟩, HC3⟩
                  case measure => simp [intOf]; omega
            · obtain rfl : k = n1 := by omega
              have hge : ¬ (k : Int) < (k : Int) := by omega
              have HD2 : Hid (hd = true ↔ (p0, p1) ∈ ch) := by have := HD.out; rwa [List.take_of_length_le (by rw [HC.out.len]; exact Nat.le_refl _)] at this
              clear HD
              cases hd with
              | true =>
                have HC2 : Hid (Ch w4 a1 c1 k (dd ((T.take (i + 1)).map (·.2))) wr) := by rw [Hdd.out]; unfold ddS; rw [if_pos (HD2.out.1 rfl)]; exact HC
                clear HC HD2 Hdd
                go_wp2
                go_roundw
                case rel => exact ⟨i + 1, a1, c1, k, by go_num, by omega, rfl, HC2⟩
                case measure => simp [intOf]; omega
              | false =>
                have Hd2 : Hid (dd ((T.take (i + 1)).map (·.2)) = ch ++ [(p0, p1)]) := by show _ = _; rw [Hdd.out]; unfold ddS; rw [if_neg (fun h => absurd (HD2.out.2 h) (by simp))]
                have HO2 : Hid (OwnA (wr.alloc (.cells #[.int .i64 p0, .int .i64 p1] 31)) w4.heap.size a1 c1 ch) := HC.out.own.alloc _
                have HB2 : Hid (Below w4.heap.size w4 (wr.alloc (.cells #[.int .i64 p0, .int .i64 p1] 31))) := HC.out.bel.alloc HC.out.bel.size _
                have Hl2 : Hid (ch.length = k) := HC.out.len
                have Hws : Hid (w4.heap.size ≤ wr.heap.size) := HC.out.bel.size
                clear HC HD2 Hdd
                go_wp2_with (at_builtin; refine wpList_append_at rfl _ _ rfl w4.heap.size a1 k c1 ch Hl2.out rfl HO2.out ⟨wr.heap.size, 0, none⟩ (p0, p1) rfl (cell_two_new _ _ _ _) (by omega) w4 HB2.out (by have := Hws.out; simp; omega) ?_; intro a3 c3 w5 HO3 hb5)
                have HC2 : Hid (Ch w4 a3 c3 (k + 1) (dd ((T.take (i + 1)).map (·.2))) w5) := ⟨by rw [Hd2.out]; exact HO3.out, by rw [Hd2.out, List.length_append, Hl2.out]; rfl, hb5⟩
                clear HO3 hb5 HO2 HB2 Hl2 Hd2 q1 q2
                go_wp2
                go_roundw
                case rel => exact ⟨i + 1, a3, c3, k + 1, by go_num, by omega, rfl, HC2⟩
                case measure => simp [intOf]; omega
        · obtain rfl : i = 78 := by omega
          have R := HP.out wr (Hb4.out.trans (HC.out.bel.mono Hb4.out.size))
          obtain rfl : n1 = 25 := by
            rw [← HC.out.len, List.take_of_length_le (by rw [Htl.out]; exact Nat.le_refl _)]
            exact H25.out
          clear HP HC H25
          go_wp2
          exact R
end Go.Proofs.Ytokjbjfpgjincaa
