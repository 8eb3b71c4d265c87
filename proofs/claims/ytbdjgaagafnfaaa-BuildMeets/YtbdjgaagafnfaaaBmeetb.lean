/-
  What is plain about BuildMeets: over ground of one height everywhere a feature that reaches over a border is among both chunks' features.
  What BuildMeets gathers: rows of bytes in a row, and features in another.
-/
import Derived.Test.YtbdjgaagafnfaaaBframe
import Derived.Laws.AppendOwnNone
set_option maxRecDepth 20000
namespace Go.Proofs.Ytbdjgaagafnfaaa
section
open C Go.RowKit

theorem flatN_at (v : Int) {i k : Nat} (hi : i < 9) (hk : k < 256) : ((flatN v).getD i []).getD k 0 = v := by
  have e : (flatN v).getD i [] = List.replicate 256 v := by
    unfold flatN
    rw [List.getD_eq_getElem?_getD, List.getElem?_map, List.getElem?_range hi]
    rfl
  rw [e]
  exact rep_getD 256 k v hk
theorem gAt_flat {v cx cz x z : Int} (h : nearB cx cz x z = true) : gAt cx cz (flatN v) x z = v := by
  unfold nearB at h
  have h' := of_decide_eq_true h
  unfold gAt
  exact flatN_at v (by omega) (by omega)
/-- The same feature, told from another chunk. -/
theorem thing_from {S s : Nat} {cx cz dx dz high band ox oz : Int} {t : Thing} (e : thingN S s cx cz (flatN high) (flatN band) ox oz = some t) (hn : nearB dx dz t.x t.z = true) : thingN S s dx dz (flatN high) (flatN band) ox oz = some t := by
  obtain ⟨ht, hb, hn0, hst⟩ := thing_is e
  rw [gAt_flat hn0, gAt_flat hn0] at hst
  rw [gAt_flat hn0] at ht
  have e1 : t.x = colX s (hT S s ox oz) ox := by rw [ht]
  have e2 : t.z = colZ s (hT S s ox oz) oz := by rw [ht]
  rw [e1, e2] at hn
  unfold thingN thingH
  rw [gAt_flat hn, gAt_flat hn, hst, hn, decide_eq_true hb, ht]
  rfl
theorem fst_ne {x y z k : Int} {t : Thing} {v : Int} : ∀ {l : List Thing}, t ∈ l → clm t x y z k = some v → ∃ u, fst x y z k l = some u
  | a :: l, h, e => by
    rw [fst_cons]
    rcases ea : clm a x y z k with _ | u
    · rcases List.mem_cons.1 h with rfl | h
      · rw [e] at ea
        cases ea
      · obtain ⟨u, hu⟩ := fst_ne h e
        exact ⟨u, by rw [hu]; rfl⟩
    · exact ⟨u, rfl⟩
/-- Where a feature of a chunk tells of a cell of a chunk beside it, what stands there was told by a feature of that one. -/
theorem meets {S : Nat} {cx cz dx dz high band : Int} {t : Thing} {j : Nat} {want : Int} (ht : t ∈ things S cx cz (flatN high) (flatN band)) (hj : j < 32768)
    (hc : clm t (dx * 16 + (j : Int) % 16) ((j : Int) / 256) (dz * 16 + (j : Int) / 16 % 16) 0 = some want) :
    ∃ u ∈ things S dx dz (flatN high) (flatN band), clm u (dx * 16 + (j : Int) % 16) ((j : Int) / 256) (dz * 16 + (j : Int) / 16 % 16) 0 = some ((buildN S dx dz (flatN high) (flatN band) (List.replicate 32768 0)).getD j 0) := by
  obtain ⟨s, ox, oz, hs3, e⟩ := things_mem ht
  obtain ⟨nx, nz⟩ := clm_near hc
  have bx : dx * 16 - 2 ≤ t.x ∧ t.x ≤ dx * 16 + 17 := by omega
  have bz : dz * 16 - 2 ≤ t.z ∧ t.z ≤ dz * 16 + 17 := by omega
  have hn : nearB dx dz t.x t.z = true := by
    unfold nearB
    rw [decide_eq_true_iff]
    omega
  obtain ⟨u, hu⟩ := fst_ne (mem_things hs3 (thing_from e hn) bx bz) hc
  obtain ⟨o, ho, hoc⟩ := fst_some hu
  refine ⟨o, ho, ?_⟩
  rw [buildN_at _ _ _ _ _ _ _ hj]
  unfold buildAt pickT
  rw [rep_getD _ _ _ hj, hu]
  exact hoc
end
section
open C Go.RowKit

theorem row_kind {w : World} {B e k n : Nat} {v : Value} {L : List Value} (h : w.ownsRow B e k v n L) {g : Nat} (hg : v.ownBlock = some g) : B ≤ g ∧ ∃ cur, w.heap[g]? = some (.cells cur e (0, 0)) := by
  rcases h.2 with ⟨rfl, _⟩ | ⟨g', cap, cur, rfl, hb, hh, _⟩
  · simp [Value.ownBlock] at hg
  · obtain rfl : g' = g := by simpa [Value.ownBlock] using hg
    exact ⟨hb, cur, hh⟩
theorem row_other {w : World} {B e k n : Nat} {v : Value} {L : List Value} (h : w.ownsRow B e k v n L) {g : Nat} {a : Array Value} {t : TypeId} (ht : t ≠ e) (hg : w.heap[g]? = some (.cells a t (0, 0))) : v.ownBlock ≠ some g := fun e1 => by
  obtain ⟨_, cur, hc⟩ := row_kind h e1
  rw [hg] at hc
  simp at hc
  exact ht hc.2
def slB (g : Nat) : Value := .slice (some ⟨g, 0, none⟩) 32768 32768
structure MeetI (w0 : World) (f : Nat → List Int) (n : Nat) (a : Option Addr) (c : Nat) (gs : List Nat) (v : Value) (al : List Thing) (w : World) : Prop where
  lg : gs.length = n
  near : w.ownsRow w0.heap.size 37 1 (.slice a n c) n (gs.map slB)
  blk : ∀ i, i < n → Blk w (gs.getD i 0) 5 (f i)
  all : OwnT w w0.heap.size v al
  bel : Below w0.heap.size w0 w
theorem MeetI.init {w0 : World} {f : Nat → List Int} : MeetI w0 f 0 none 0 [] (.slice none 0 0) [] w0 :=
  ⟨rfl, World.ownsRow_nil _ _ _ _, fun i hi => (by omega), ⟨none, 0, rfl, World.ownsRow_nil _ _ _ _⟩, Below.refl _ _⟩
theorem MeetI.on {w0 : World} {f : Nat → List Int} {n : Nat} {a : Option Addr} {c : Nat} {gs : List Nat} {v : Value} {al : List Thing} {w w' : World} (h : MeetI w0 f n a c gs v al w) (hb : Below w.heap.size w w') : MeetI w0 f n a c gs v al w' :=
  ⟨h.lg, ownsRow_on h.near hb, fun i hi => (h.blk i hi).below hb (h.blk i hi).lt, h.all.on hb, h.bel.trans (hb.mono h.bel.size)⟩
theorem MeetI.addNear {w0 : World} {f : Nat → List Int} {n : Nat} {a a' : Option Addr} {c c' : Nat} {gs : List Nat} {v : Value} {al : List Thing} {w w' : World} (h : MeetI w0 f n a c gs v al w) {p : Nat} (hp : Blk w p 5 (f n))
    (ho : w'.ownsRow w0.heap.size 37 1 (.slice a' (n + 1) c') (n + 1) (gs.map slB ++ [slB p])) (hgr : w.grownBy w' (Value.ownBlock (.slice a n c))) : MeetI w0 f (n + 1) a' c' (gs ++ [p]) v al w' := by
  have hl := h.lg
  have hk : ∀ {g : Nat} {cs : List Int}, Blk w g 5 cs → Blk w' g 5 cs := fun {g cs} hB => (hgr.block g hB.lt (row_other h.near (by decide) hB).symm).trans hB
  obtain ⟨av, cv, rfl, hA⟩ := h.all
  refine ⟨by simp [hl], by rw [List.map_append]; exact ho, fun i hi => ?_, ⟨av, cv, rfl, ownsRow_apart hA hgr fun g hg => ?_⟩, h.bel.grown hgr h.bel.size fun k e => (row_kind h.near e).1⟩
  · by_cases e1 : i < n
    · rw [List.getD_eq_getElem?_getD, List.getElem?_append_left (by omega), ← List.getD_eq_getElem?_getD]
      exact hk (h.blk i e1)
    · obtain rfl : i = n := by omega
      rw [List.getD_eq_getElem?_getD, List.getElem?_append_right (by omega), hl, Nat.sub_self]
      exact hk hp
  · obtain ⟨_, cur, hc⟩ := row_kind hA hg
    exact row_other h.near (by decide) hc
theorem MeetI.addAll {w0 : World} {f : Nat → List Int} {n : Nat} {a : Option Addr} {c : Nat} {gs : List Nat} {v v' : Value} {al al' : List Thing} {w w' : World} (h : MeetI w0 f n a c gs v al w)
    (ho : OwnT w' w0.heap.size v' al') (hgr : w.grownBy w' v.ownBlock) : MeetI w0 f n a c gs v' al' w' := by
  obtain ⟨av, cv, rfl, hA⟩ := h.all
  refine ⟨h.lg, ownsRow_apart h.near hgr fun g hg => ?_, fun i hi => ?_, ho, h.bel.grown hgr h.bel.size fun k e => (row_kind hA e).1⟩
  · obtain ⟨_, cur, hc⟩ := row_kind h.near hg
    exact row_other hA (by decide) hc
  · exact (hgr.block _ (h.blk i hi).lt (row_other hA (by decide) (h.blk i hi)).symm).trans (h.blk i hi)
/-- One row of bytes more. -/
theorem wpList_append_bytes {w : World} {ops : Array Oper} {rest : List Oper} {o : Oper} {a : Act} {Q : Exit → Act → World → Prop} {w0 : World} {f : Nat → List Int} {n : Nat} {av : Option Addr} {cv : Nat} {gs : List Nat} {v : Value} {al : List Thing}
    (hgd : o.guard = none) (s x : Operand) (ho : o.op = .call { callee := .builtin .append, args := #[s, x], argTypes := #[46, 46] }) (hM : MeetI w0 f n av cv gs v al w) (hs : a.eval s = .slice av n cv) 
    (ad : Addr) (p : Nat) (hx : a.eval x = .slice (some ad) 1 1) (hp : Blk w p 5 (f n)) (hnews : ∀ j u, [slB p][j]? = some u → w.cell? (ad.add j) = some u) (hle : n ≤ 100000)
    (h : ∀ a' c' w', MeetI w0 f (n + 1) a' c' (gs ++ [p]) v al w' → wpList Try.prog ops Q rest (a.put o.dst (.slice a' (n + 1) c')) w') : wpList Try.prog ops Q (o :: rest) a w := by
  have hinfo : (Try.prog.info? 37).map (fun i => (i.zero, i.size, i.bytes)) = some (some (.slice none 0 0), 1, 24) := by kernel_rfl
  obtain ⟨i, hi, hz0, hz1, hz2⟩ := info_parts hinfo
  refine wpList_append_own_at w hgd s x 46 ho w0.heap.size 37 i _ 1 24 Try.underlying46 hi hz0 hz1 hz2 rfl (by decide) _ _ _ hs hM.near ad 1 1 [slB p] hx rfl hnews (by simp [slB, Value.oneCell']) (by unfold maxLen; omega) (by omega) hM.bel.size ?_
  intro v' w' h1 h2 _ _
  have e : ∃ a' c', v' = .slice a' (n + 1) c' := by
    rcases h1.2 with ⟨hv, hn⟩ | ⟨g, cap, _, hv, _⟩
    · omega
    · exact ⟨_, _, hv⟩
  obtain ⟨a', c', rfl⟩ := e
  exact h a' c' w' (hM.addNear hp h1 h2)
theorem flatT_append (l m : List Thing) : flatT (l ++ m) = flatT l ++ flatT m := by simp [flatT]
theorem flatT_length (l : List Thing) : (flatT l).length = l.length * 5 := by
  unfold flatT
  induction l with
  | nil => rfl
  | cons t l ih => rw [List.flatMap_cons, List.length_append, ih, List.length_cons]; simp only [rowV, List.length_cons, List.length_nil]; omega
/-- Features at the end, as many as there are. -/
theorem wpList_append_things {w : World} {ops : Array Oper} {rest : List Oper} {o : Oper} {a : Act} {Q : Exit → Act → World → Prop} {w0 : World} {f : Nat → List Int} {n : Nat} {av : Option Addr} {cv : Nat} {gs : List Nat} {v : Value} {al : List Thing}
    (hgd : o.guard = none) (s x : Operand) (ho : o.op = .call { callee := .builtin .append, args := #[s, x], argTypes := #[47, 47] }) (hM : MeetI w0 f n av cv gs v al w) (hs : a.eval s = v) 
    (xv : Value) (B : Nat) (l : List Thing) (hx : a.eval x = xv) (hX : OwnT w B xv l) (hle : al.length + l.length ≤ 100000)
    (h : ∀ v' w', MeetI w0 f n av cv gs v' (al ++ l) w' → wpList Try.prog ops Q rest (a.put o.dst v') w') : wpList Try.prog ops Q (o :: rest) a w := by
  obtain ⟨i, hi, hz0, hz1, hz2⟩ := info_parts info50
  obtain ⟨a1, c1, rfl, hA⟩ := hM.all
  obtain ⟨a2, c2, rfl, hX2⟩ := hX
  rcases hX2.2 with ⟨hv, hn⟩ | ⟨g, cap, cur, hv, hb, hh, hcap, hml, hsz, htk⟩
  · rw [hv] at hx
    refine wpList_append_own_none hgd s x 47 ho w0.heap.size 50 i 5 Try.underlying47 hi _ _ _ hs hA hx ?_
    have e : al ++ l = al := by rw [List.eq_nil_of_length_eq_zero hn, List.append_nil]
    refine h _ w ?_
    rw [e]
    exact hM
  · rw [hv] at hx
    have hc : ∀ j u, (flatT l)[j]? = some u → w.cell? (Addr.add ⟨g, 0, none⟩ j) = some u := fun j u hj => by
      have hlt : j < (flatT l).length := (List.getElem?_eq_some_iff.1 hj).1
      rw [flatT_length] at hlt
      rw [Addr.add_mid, cell_of_row w g _ cur 50 (0, 0) hh]
      rw [← htk, List.getElem?_take_of_lt hlt, Array.getElem?_toList] at hj
      rw [Nat.zero_add]
      exact hj
    have h1c : ∀ u ∈ flatT l, u.oneCell' = true := fun u hu => by
      unfold flatT at hu
      obtain ⟨t, _, ht⟩ := List.mem_flatMap.1 hu
      simp only [rowV, List.mem_cons, List.not_mem_nil, or_false] at ht
      rcases ht with rfl | rfl | rfl | rfl | rfl <;> rfl
    refine wpList_append_own_at w hgd s x 47 ho w0.heap.size 50 i _ 5 40 Try.underlying47 hi hz0 hz1 hz2 rfl (by decide) _ _ _ hs hA ⟨g, 0, none⟩ l.length cap (flatT l) hx (flatT_length l) hc h1c (by unfold maxLen; omega) (by omega) hM.bel.size ?_
    intro v' w' h1 h2 h3 _
    have e : ∃ a' c', v' = .slice a' (al ++ l).length c' := by
      rw [List.length_append]
      rcases h1.2 with ⟨hv, hn⟩ | ⟨g, cap, _, hv, _⟩
      · exact ⟨none, 0, by rw [hv, hn]⟩
      · exact ⟨_, _, hv⟩
    obtain ⟨a', c', rfl⟩ := e
    refine h _ w' (hM.addAll ⟨a', c', rfl, ?_⟩ h2)
    rw [flatT_append, List.length_append]
    rw [List.length_append] at h1
    exact h1
/-! ### the nine chunks -/
def dX (cx : Int) (i : Nat) : Int := cx + (i : Int) % 3 - 1
def dZ (cz : Int) (i : Nat) : Int := cz + (i : Int) / 3 - 1
def nineC (S : Nat) (cx cz high band : Int) (i : Nat) : List Int := buildN S (dX cx i) (dZ cz i) (flatN high) (flatN band) (List.replicate 32768 0)
def allT (S : Nat) (cx cz high band : Int) : Nat → List Thing
  | 0 => []
  | n + 1 => allT S cx cz high band n ++ things S (dX cx n) (dZ cz n) (flatN high) (flatN band)
theorem allT_mem {S : Nat} {cx cz high band : Int} {t : Thing} : ∀ {n i : Nat}, i < n → t ∈ things S (dX cx i) (dZ cz i) (flatN high) (flatN band) → t ∈ allT S cx cz high band n
  | n + 1, i, hi, h => by
    unfold allT
    by_cases e : i = n
    · subst e
      exact List.mem_append_right _ h
    · exact List.mem_append_left _ (allT_mem (by omega) h)
theorem allT_of {S : Nat} {cx cz high band : Int} {t : Thing} : ∀ {n : Nat}, t ∈ allT S cx cz high band n → ∃ i, i < n ∧ t ∈ things S (dX cx i) (dZ cz i) (flatN high) (flatN band)
  | n + 1, h => by
    unfold allT at h
    rcases List.mem_append.1 h with h | h
    · obtain ⟨i, hi, h'⟩ := allT_of h
      exact ⟨i, by omega, h'⟩
    · exact ⟨n, by omega, h⟩
theorem MeetI.rowAt {w0 : World} {f : Nat → List Int} {n : Nat} {a : Option Addr} {c : Nat} {gs : List Nat} {v : Value} {al : List Thing} {w : World} (h : MeetI w0 f n a c gs v al w) {i : Nat} (hi : i < n) : ∃ b, a = some ⟨b, 0, none⟩ ∧ ∀ j, j < n → w.cell? ⟨b, j, none⟩ = some (slB (gs.getD j 0)) := by
  rcases h.near.2 with ⟨_, hn⟩ | ⟨g, cap, cur, hv, hb, hh, hcap, _, hsz, htk⟩
  · omega
  · injection hv with h1 h2 h3
    refine ⟨g, h1, fun j hj => ?_⟩
    rw [cell_of_row w g j cur 37 (0, 0) hh]
    have hjj : (cur.toList.take (n * 1))[j]? = (gs.map slB)[j]? := by rw [htk]
    rw [List.getElem?_take_of_lt (by omega), Array.getElem?_toList] at hjj
    rw [hjj, List.getElem?_map, List.getElem?_eq_getElem (by rw [h.lg]; exact hj), List.getD_eq_getElem?_getD, List.getElem?_eq_getElem (by rw [h.lg]; exact hj)]
    rfl
theorem dig16 (y e b : Int) (hb : 0 ≤ b) (hb' : b ≤ 15) : (y * 256 + e * 16 + b) % 16 = b := by omega
theorem dig256 (y e b : Int) (hb : 0 ≤ b) (hb' : b ≤ 15) (he : 0 ≤ e) (he' : e ≤ 15) : (y * 256 + e * 16 + b) / 256 = y := by omega
theorem dig4 (y e b : Int) (hb : 0 ≤ b) (hb' : b ≤ 15) (he : 0 ≤ e) (he' : e ≤ 15) : (y * 256 + e * 16 + b) / 16 % 16 = e := by omega
theorem part48 (X : Int) (h0 : 0 ≤ X) (h1 : X ≤ 47) : ∃ A B : Nat, A ≤ 2 ∧ B ≤ 15 ∧ X = 16 * (A : Int) + (B : Int) ∧ Int.tdiv X 16 = (A : Int) ∧ Int.tmod X 16 = (B : Int) := by
  rw [Int.tdiv_eq_ediv_of_nonneg h0, Int.tmod_eq_emod_of_nonneg h0]
  exact ⟨(X / 16).toNat, (X % 16).toNat, by omega, by omega, by omega, by omega, by omega⟩
theorem meet_ar {cx cz PX PY PZ XR ZR : Int} (hx : PX - cx * 16 + 16 = XR) (hz : PZ - cz * 16 + 16 = ZR) (x0 : 0 ≤ XR) (x1 : XR ≤ 47) (z0 : 0 ≤ ZR) (z1 : ZR ≤ 47) (y0 : 0 ≤ PY) (y1 : PY < 128) :
    ∃ A B C E D K : Nat, (A ≤ 2 ∧ B ≤ 15 ∧ C ≤ 2 ∧ E ≤ 15) ∧ Int.tdiv XR 16 = (A : Int) ∧ Int.tmod XR 16 = (B : Int) ∧ Int.tdiv ZR 16 = (C : Int) ∧ Int.tmod ZR 16 = (E : Int) ∧ (C : Int) * 3 + (A : Int) = (D : Int) ∧ PY * 256 + (E : Int) * 16 + (B : Int) = (K : Int) ∧ D < 9 ∧ K < 32768 ∧
      dX cx D * 16 + (K : Int) % 16 = PX ∧ (K : Int) / 256 = PY ∧ dZ cz D * 16 + (K : Int) / 16 % 16 = PZ := by
  obtain ⟨A, B, bA, bB, eX, a1, a2⟩ := part48 XR x0 x1
  obtain ⟨C, E, bC, bE, eZ, c1, c2⟩ := part48 ZR z0 z1
  have hK : PY * 256 + (E : Int) * 16 + (B : Int) = (((PY * 256 + (E : Int) * 16 + (B : Int)).toNat : Nat) : Int) := by omega
  have k1 := dig16 PY E B (by omega) (by omega)
  have k2 := dig256 PY E B (by omega) (by omega) (by omega) (by omega)
  have k3 := dig4 PY E B (by omega) (by omega) (by omega) (by omega)
  refine ⟨A, B, C, E, C * 3 + A, (PY * 256 + (E : Int) * 16 + (B : Int)).toNat, ⟨bA, bB, bC, bE⟩, a1, a2, c1, c2, by omega, hK, by omega, by omega, ?_, ?_, ?_⟩
  · rw [← hK, k1]
    unfold dX
    clear k1 k2 k3 hK a1 a2 c1 c2
    have d : ((C * 3 + A : Nat) : Int) % 3 = (A : Int) := by omega
    rw [d]
    omega
  · rw [← hK, k2]
  · rw [← hK, k3]
    unfold dZ
    clear k1 k2 k3 hK a1 a2 c1 c2
    have d : ((C * 3 + A : Nat) : Int) / 3 = (C : Int) := by omega
    rw [d]
    omega
end
end Go.Proofs.Ytbdjgaagafnfaaa
