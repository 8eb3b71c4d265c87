/-
  The program's runs of places.
-/
import Derived.Test.YtdkihhjhjfkjjaaRbase
import Derived.BigQuiet
namespace Go.Proofs.Ytdkihhjhjfkjjaa
open Go.RowKit

/-- Places as runs, with so many steps at most. -/
def encPF : Nat → List Int → List Int
  | 0, _ => []
  | _ + 1, [] => []
  | m + 1, p :: r => putL ((runN p r + 1 : Nat) : Int) ++ p :: encPF m (r.drop (runN p r))
/-- Places as runs. -/
def encP (ps : List Int) : List Int := encPF ps.length ps
theorem encPF_more : ∀ (m k : Nat) (ps : List Int), ps.length ≤ m → ps.length ≤ k → encPF m ps = encPF k ps
  | 0, 0, _, _, _ => rfl
  | 0, _ + 1, [], _, _ => rfl
  | 0, _ + 1, _ :: _, h, _ => by simp at h
  | _ + 1, 0, [], _, _ => rfl
  | _ + 1, 0, _ :: _, _, h => by simp at h
  | _ + 1, _ + 1, [], _, _ => rfl
  | m + 1, k + 1, p :: r, h1, h2 => by
    rw [List.length_cons] at h1 h2
    rw [encPF, encPF, encPF_more m k (r.drop (runN p r)) (by rw [List.length_drop]; omega) (by rw [List.length_drop]; omega)]
theorem encP_nil : encP [] = [] := rfl
theorem encP_one (p : Int) (r : List Int) : encP (p :: r) = putL ((runN p r + 1 : Nat) : Int) ++ p :: encP (r.drop (runN p r)) := by
  show encPF (r.length + 1) (p :: r) = _
  rw [encPF, encPF_more r.length (r.drop (runN p r)).length (r.drop (runN p r)) (by rw [List.length_drop]; omega) (Nat.le_refl _)]
  rfl
theorem runN_map {l : List Int} {c : Int} (hc : c ∈ l) : ∀ r : List Int, (∀ x ∈ r, x ∈ l) → runN (plc l c : Int) (r.map fun x => (plc l x : Int)) = runN c r
  | [], _ => rfl
  | x :: r, h => by
    have hx := h x (List.mem_cons_self ..)
    rw [List.map_cons, runN, runN]
    by_cases e : x = c
    · rw [if_pos e, if_pos (by rw [e]), runN_map hc r (fun y hy => h y (List.mem_cons_of_mem _ hy))]
    · rw [if_neg e, if_neg]
      intro h2
      have h3 : plc l x = plc l c := by omega
      have h4 := plc_at hx
      rw [h3, plc_at hc] at h4
      exact e h4.symm
theorem encP_map (l : List Int) : ∀ (m : Nat) (cs : List Int), cs.length ≤ m → (∀ x ∈ cs, x ∈ l) → encP (cs.map fun x => (plc l x : Int)) = encR l cs
  | _, [], _, _ => by rw [List.map_nil, encP_nil, encR_nil]
  | 0, c :: r, h, _ => by simp at h
  | m + 1, c :: r, h, hm => by
    have hr : ∀ x ∈ r, x ∈ l := fun x hx => hm x (List.mem_cons_of_mem _ hx)
    rw [List.map_cons, encP_one, encR_cons, runN_map (hm c (List.mem_cons_self ..)) r hr, ← List.map_drop, encP_map l m (r.drop (runN c r)) (by rw [List.length_drop]; simp at h; omega) (fun x hx => hr x (List.mem_of_mem_drop hx))]
theorem runN_upto (c : Int) : ∀ (r : List Int) (k : Nat), k ≤ r.length → (∀ j, j < k → r.getD j 0 = c) → (k = r.length ∨ r.getD k 0 ≠ c) → runN c r = k
  | [], k, h, _, _ => by simp at h; rw [h]; rfl
  | x :: r, 0, _, _, h => by
    rw [runN]
    rcases h with h | h
    · simp at h
    · rw [if_neg (by simpa using h)]
  | x :: r, k + 1, h1, h2, h3 => by
    have hx : x = c := by simpa using h2 0 (by omega)
    rw [runN, if_pos hx, runN_upto c r k (by simpa using h1) (fun j hj => by simpa using h2 (j + 1) (by omega)) (by simpa using h3)]

set_option maxHeartbeats 1000000 in
theorem runAt_c (b off n c : Nat) (p : Int) (r : List Int) (w : World) (hB : Bytes w (some ⟨b, off, none⟩) n (p :: r)) (h6 : n ≤ 1000000) :
    Calls Try.prog 38 #[.slice (some ⟨b, off, none⟩) n c] w fun e w' => e = .returned (.int .i64 ((runN p r + 1 : Nat) : Int)) ∧ w'.heap.size = w.heap.size ∧ Below w.heap.size w w' := by
  have hlen := hB.n
  rw [List.length_cons] at hlen
  obtain ⟨R, hR⟩ : ∃ R, R = runN p r + 1 := ⟨_, rfl⟩
  rw [← hR]
  have HB : Hid (Bytes w (some ⟨b, off, none⟩) n (p :: r)) := hB
  have HR : Hid (∀ M, 1 ≤ M → M ≤ n → (∀ j, j + 1 < M → r.getD j 0 = p) → (M = n ∨ r.getD (M - 1) 0 ≠ p) → R = M) := fun M h0 h1 h2 h3 => by
    rw [hR, runN_upto p r (M - 1) (by omega) (fun j hj => h2 j (by omega)) (h3.imp (fun h => by omega) (fun h => h))]
    omega
  obtain ⟨b', o', z, e, hc0, z0, z1, hk, hz⟩ := hB.get 0 (by omega)
  cases e
  rw [Nat.add_zero] at hc0
  have hzp : z = p := hz
  subst hzp
  have H0 : Hid (w.cell? ⟨b, off, none⟩ = some (.int .u8 z)) := hc0
  clear hB hR hz hk hc0
  go_enter Try.func38, Try.ntmps38
  go_wp2
  go_loopw [3] (fun v wr => ∃ (M : Nat), 1 ≤ M ∧ M ≤ n ∧ v = .int .i64 (M : Int) ∧ Hid (∀ j, j + 1 < M → r.getD j 0 = z) ∧ Hid (wr.heap.size = w.heap.size) ∧ Hid (Below w.heap.size w wr)) (fun v _ => n - (intOf v).toNat)
  case atStart => exact ⟨1, by omega, by omega, rfl, fun j hj => by omega, rfl, Below.refl _ _⟩
  case round =>
    obtain ⟨M, hM1, hM, rfl, HM, Hs, Hb⟩ := hrel
    by_cases hlt : M < n
    · have hlt' : (M : Int) < n := by omega
      obtain ⟨b', o', x, e, hcx, x0, x1, hk, hx⟩ := (HB.out.later Hb.out).get M hlt
      cases e
      have hc0 : wr.cell? ⟨b, off, none⟩ = some (.int .u8 z) := by
        have := H0.out
        unfold World.cell? at this ⊢
        rw [Hb.out.block b (by have := World.block_lt_of_cell? w _ H0.out; simpa using this)]
        exact this
      have Hx : Hid (r.getD (M - 1) 0 = x) := by
        obtain ⟨m, rfl⟩ : ∃ m, M = m + 1 := ⟨M - 1, by omega⟩
        show _ = _
        rw [hx, List.getElem_cons_succ, Nat.add_sub_cancel, List.getD_eq_getElem?_getD, List.getElem?_eq_getElem (by simpa using hk)]
        rfl
      clear hx hk
      by_cases e : x = z
      · subst e
        have HM2 : Hid (∀ j, j + 1 < M + 1 → r.getD j 0 = x) := fun j hj => by
          by_cases e2 : j = M - 1
          · subst e2; exact Hx.out
          · exact HM.out j (by omega)
        clear HM Hx HR HB H0
        go_wp2_with fail
        go_big_quiet (fail)
        go_wp2
        go_roundw
        case rel => exact ⟨M + 1, by omega, by omega, by go_num, HM2, Hs, ⟨Hb.out.os, Hb.out.tape, Hb.out.output, Hb.out.size, Hb.out.block⟩⟩
        case measure => simp [intOf]; omega
      · have eR : R = M := HR.out M hM1 hM HM.out (Or.inr (by rw [Hx.out]; exact e))
        subst eR
        have e' : (x == z) = false := by simp [e]
        clear HM Hx HR HB H0 e
        go_wp2_with fail
        go_big_quiet (fail)
        go_wp2
        go_ret
        exact ⟨rfl, Hs.out, ⟨Hb.out.os, Hb.out.tape, Hb.out.output, Hb.out.size, Hb.out.block⟩⟩
    · have eR : R = M := HR.out M hM1 hM HM.out (Or.inl (by omega))
      subst eR
      obtain rfl : R = n := by omega
      have hlt' : ¬ (R : Int) < R := by omega
      clear HM HR HB H0
      go_wp2_with fail
      go_big_quiet (fail)
      go_wp2
      go_ret
      exact ⟨rfl, Hs.out, ⟨Hb.out.os, Hb.out.tape, Hb.out.output, Hb.out.size, Hb.out.block⟩⟩

theorem encP_cons (p : Int) (r : List Int) : encP (p :: r) = (putL ((runN p r + 1 : Nat) : Int) ++ [p]) ++ encP (r.drop (runN p r)) := by
  rw [encP_one, List.append_assoc]
  rfl
theorem putL_le (n : Int) (h0 : 0 ≤ n) (h1 : n < 9223372036854775808) : (putL n).length ≤ 9 := by
  rw [putL_len n h0 h1]
  exact (grp_spec n h0 h1).2.1

set_option maxRecDepth 100000 in
set_option maxHeartbeats 1000000 in
theorem runs_c (b off n c : Nat) (ps : List Int) (w : World) (hB : Bytes w (some ⟨b, off, none⟩) n ps) (hn : n ≤ 32768) (hc : n ≤ c) :
    Calls Try.prog 24 #[.slice (some ⟨b, off, none⟩) n c] w fun e w' => (∃ a' c', e = .returned (.slice a' (encP ps).length c') ∧ Own w' w.heap.size a' c' (encP ps)) ∧ Below w.heap.size w w' := by
  obtain ⟨Post, hPost⟩ : ∃ Post : Ending → World → Prop, Post = fun e w' => (∃ a' c', e = .returned (.slice a' (encP ps).length c') ∧ Own w' w.heap.size a' c' (encP ps)) ∧ Below w.heap.size w w' := ⟨_, rfl⟩
  rw [← hPost]
  have HPost : Hid (∀ a' c' w' out, encP ps = out → Own w' w.heap.size a' c' out → Below w.heap.size w w' → Post (.returned (.slice a' out.length c')) w') := fun a' c' w' out h0 h1 h2 => by
    rw [hPost]; subst h0; exact ⟨⟨a', c', rfl, h1⟩, h2⟩
  clear hPost
  have hl := hB.n
  have HB : Hid (Bytes w (some ⟨b, off, none⟩) n ps) := hB
  have Hl : Hid (ps.length = n) := hl
  clear hB hl
  go_enter Try.func24, Try.ntmps24
  go_wp2
  go_loopw [3, 4] (fun v3 v4 wr => ∃ (I : Nat) (out : List Int) (a2 : Option Addr) (c2 : Nat), I ≤ n ∧ v4 = .int .i64 (I : Int) ∧ v3 = .slice a2 out.length c2 ∧ Hid (encP ps = out ++ encP (ps.drop I)) ∧ Hid (Own wr w.heap.size a2 c2 out) ∧ Hid (Below w.heap.size w wr) ∧ Hid (w.heap.size ≤ wr.heap.size) ∧ Hid (out.length ≤ 10 * I)) (fun _ v4 _ => n - (intOf v4).toNat)
  case atStart => exact ⟨0, [], none, 0, by omega, rfl, rfl, rfl, Own.nil _ _, Below.refl _ _, Nat.le_refl _, Nat.le_refl _⟩
  case round =>
    obtain ⟨I, out, a2, c2, hI, rfl, rfl, HE, HO, Hb, Hs, HO10⟩ := hrel
    by_cases hlt : I < n
    · have hlt' : (I : Int) < n := by omega
      obtain ⟨o2, hsl, ho2⟩ := slice_from b off n c I (by omega)
      obtain ⟨p, r, hd⟩ : ∃ p r, ps.drop I = p :: r := by
        have : I < ps.length := by rw [Hl.out]; exact hlt
        exact ⟨_, _, List.drop_eq_getElem_cons this⟩
      have hB2 : Bytes wr (some ⟨b, o2, none⟩) (n - I) (p :: r) := by
        have := (HB.out.later Hb.out).from (m := I) (o' := o2) (by omega) hc ho2
        rwa [hd] at this
      have hra := runAt_c b o2 (n - I) (c - I) p r wr hB2 (by omega)
      obtain ⟨b', o', x, e, hcx, x0, x1, hk, hx⟩ := (HB.out.later Hb.out).get I hlt
      cases e
      have hxp : x = p := by
        have h2 : ps.drop I = ps[I] :: ps.drop (I + 1) := List.drop_eq_getElem_cons hk
        rw [hd] at h2
        injection h2 with h3 _
        rw [hx, ← h3]
      subst hxp
      have hrn := runN_le x r
      have hrl : r.length + 1 = n - I := by have := hB2.n; rwa [List.length_cons] at this
      have HE2 : Hid (encP ps = (out ++ (putL ((runN x r + 1 : Nat) : Int) ++ [x])) ++ encP (ps.drop (I + (runN x r + 1)))) := by
        show _ = _
        have h3 : ps.drop (I + (runN x r + 1)) = r.drop (runN x r) := by
          rw [← List.drop_drop, hd, List.drop_succ_cons]
        rw [HE.out, hd, encP_cons, h3]
        simp only [List.append_assoc]
      obtain ⟨M, hM⟩ : ∃ M, M = runN x r + 1 := ⟨_, rfl⟩
      rw [← hM] at hra HE2
      have HMn : Hid (1 ≤ M ∧ I + M ≤ n) := ⟨by omega, by omega⟩
      have hMb : (M : Int) ≤ 32768 := by omega
      have HxB : Hid (0 ≤ x ∧ x ≤ 255) := ⟨x0, x1⟩
      have HcI : Hid (Bytes w (some ⟨b, off, none⟩) n ps) := HB
      have Hbyt : Hid (∀ w', Below w.heap.size w w' → w'.cell? ⟨b, off + I, none⟩ = some (.int .u8 x)) := fun w' h' => by
        obtain ⟨b', o', z, e, hc', _, _, hk', hz⟩ := (HB.out.later h').get I hlt
        cases e
        rw [hz] at hc'
        rw [hx]
        exact hc'
      have Hsl := hsl wr
      generalize n - I = n2 at *
      generalize c - I = c3 at *
      clear hd hB2 HE hx hk hcx hrn hrl hM ho2 hsl
      go_wp2_with fail
      refine hra.mono ?_
      clear hra
      rintro _ w2 ⟨rfl, hs2, hb2⟩
      have HO2 : Hid (Own w2 w.heap.size a2 c2 out) := HO.out.later hb2
      have Hb2 : Hid (Below w.heap.size w w2) := Hb.out.trans (hb2.mono Hs.out)
      have Hs2 : Hid (w.heap.size ≤ w2.heap.size) := by show _ ≤ _; rw [hs2]; exact Hs.out
      clear hb2 hs2 HO Hb Hs
      have hput := put_any none 0 0 [] (M : Int) w2 (by omega) (by omega) (by omega) ⟨rfl, Or.inl rfl, fun z hz => by simp at hz⟩
      rw [List.nil_append, Nat.zero_add] at hput
      have HPf : Hid (∀ z ∈ putL (M : Int), 0 ≤ z ∧ z ≤ 255) := putL_fit _ (by omega)
      have HPl : Hid ((putL (M : Int)).length ≤ 9) := putL_le _ (by omega) (by omega)
      obtain ⟨G, hG⟩ : ∃ G, G = (putL (M : Int)).length := ⟨_, rfl⟩
      rw [← hG] at hput
      have HG : Hid ((putL (M : Int)).length = G) := hG.symm
      clear hG
      generalize putL (M : Int) = pm at *
      go_wp2_with fail
      refine hput.mono ?_
      clear hput
      rintro _ w3 ⟨rfl, hR3, hb3⟩
      have HO3 : Hid (Own w3 w.heap.size a2 c2 out) := HO2.out.later hb3
      have Hb3 : Hid (Below w.heap.size w w3) := Hb2.out.trans (hb3.mono Hs2.out)
      have Hs3 : Hid (w.heap.size ≤ w3.heap.size) := by show _ ≤ _; have := hb3.size; have := Hs2.out; omega
      have HX3 : Hid (Bytes w3 (some ⟨w2.heap.size, 0, none⟩) G pm) := hR3.bytes HPf.out G HG.out
      clear hb3 hR3 HO2 Hb2 Hs2
      generalize w2.heap.size = g2 at *
      obtain ⟨L, hL⟩ : ∃ L, L = out.length := ⟨_, rfl⟩
      rw [← hL]
      have HL : Hid (out.length = L) := hL.symm
      clear hL
      have HLb : Hid (L + G ≤ 140737488355328 ∧ L + G + 1 ≤ 140737488355328) := by have := HO10.out; have := HPl.out; have := HL.out; have := HG.out; exact ⟨by omega, by omega⟩
      go_upto_region 6 with (at_builtin; refine wpList_append_bytes rfl (.tmp 14) (.tmp 16) rfl w.heap.size a2 L c2 out HL.out rfl HO3.out _ G G pm rfl HX3.out (fun h => by cases h) HLb.out.1 w Hb3.out Hs3.out ?_; intro a4 c4 w4 HO4 hb4 hs4)
      have hcI := Hbyt.out w4 hb4
      have HO5 : Hid (Own (w4.alloc (.cells #[.int .u8 x] 5)) w.heap.size a4 c4 (out ++ pm)) := HO4.out.later ((Below.refl _ _).alloc (Nat.le_refl _) _)
      have HB5 : Hid _ := oneByte w4 x HxB.out
      have HA5 : Hid _ := belowAlloc hb4 hs4 (.cells #[.int .u8 x] 5)
      have HL5 : Hid ((out ++ pm).length = L + G) := by show _ = _; rw [List.length_append, HL.out, HG.out]
      clear HO4 HO3 HX3 Hb3 Hs3 HPf
      go_wp2_with (at_builtin; refine wpList_append_bytes rfl (.tmp 18) (.tmp 23) rfl w.heap.size a4 (L + G) c4 (out ++ pm) HL5.out rfl HO5.out _ 1 1 [x] rfl HB5.out (fun h => by cases h) HLb.out.2 w HA5.out.1 HA5.out.2 ?_; intro a6 c6 w6 HO6 hb6 hs6)
      go_roundw
      case rel =>
        refine ⟨I + M, out ++ pm ++ [x], a6, c6, HMn.out.2, by go_num, ?_, ?_, HO6, hb6, hs6, ?_⟩
        · rw [List.length_append, HL5.out]; rfl
        · show _ = _
          rw [HE2.out, List.append_assoc out pm]
        · show _ ≤ _
          rw [List.length_append, HL5.out, List.length_singleton]
          have := HO10.out; have := HPl.out; have := HL.out; have := HG.out; have := HMn.out
          omega
      case measure =>
        have := HMn.out
        simp [intOf]
        omega
    · obtain rfl : I = n := by omega
      have hlt' : ¬ (I : Int) < I := by omega
      have R := HPost.out a2 c2 wr out (by rw [HE.out, List.drop_eq_nil_of_le (Nat.le_of_eq Hl.out), encP_nil, List.append_nil]) HO.out Hb.out
      clear HPost HE HO Hb Hs HO10
      go_wp2
      exact R
end Go.Proofs.Ytdkihhjhjfkjjaa
