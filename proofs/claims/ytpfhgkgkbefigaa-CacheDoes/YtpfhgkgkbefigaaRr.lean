/-
  The document's cache in memory: a list of entries; place, Pinned.
-/
import Derived.Test.YtpfhgkgkbefigaaWtrims0
import Derived.Test.YtpfhgkgkbefigaaPn
set_option maxRecDepth 20000
namespace Go.Proofs.Ytpfhgkgkbefigaa
open Go.RowKit Go.Maps

/-- The cells of entries. -/
def ecell (e : E) : List Value := [.int .i64 e.x, .int .i64 e.z, .int .i64 e.v, .bool e.p]
def ecells (l : List E) : List Value := l.flatMap ecell
theorem ecells_len (l : List E) : (ecells l).length = l.length * 4 := by
  induction l with
  | nil => rfl
  | cons p l ih =>
    show (ecell p ++ ecells l).length = _
    rw [List.length_append, ih, List.length_cons]
    show 4 + l.length * 4 = _
    omega
theorem ecells_append (a b : List E) : ecells (a ++ b) = ecells a ++ ecells b := by simp [ecells]
theorem ecells_at : ∀ (l : List E) (k : Nat) (h : k < l.length) (j : Nat), j < 4 → (ecells l)[k * 4 + j]? = (ecell l[k])[j]?
  | p :: l, 0, _, j, hj => by
    show (ecell p ++ ecells l)[0 * 4 + j]? = _
    rw [Nat.zero_mul, Nat.zero_add, List.getElem?_append_left (by show j < 4; exact hj)]
    rfl
  | p :: l, k + 1, h, j, hj => by
    have ih := ecells_at l k (by simpa using h) j hj
    show (ecell p ++ ecells l)[(k + 1) * 4 + j]? = _
    rw [show (k + 1) * 4 + j = 4 + (k * 4 + j) by omega, List.getElem?_append_right (by show 4 ≤ _; omega)]
    simp only [List.getElem_cons_succ]
    rw [← ih]
    congr 1
    show 4 + (k * 4 + j) - 4 = _
    omega
/-- A row of entries at B or above. -/
def ERow (B : Nat) (w : World) (av : Option Addr) (cv : Nat) (l : List E) : Prop := w.ownsRow B 43 4 (.slice av l.length cv) l.length (ecells l)
section
variable {B : Nat} {w w' : World} {av : Option Addr} {cv : Nat} {l : List E}
theorem ERow.blk {g : Nat} (h : ERow B w (some ⟨g, 0, none⟩) cv l) : ∃ cur, w.heap[g]? = some (.cells cur 43 (0, 0)) ∧ B ≤ g ∧ l.length ≤ cv ∧ cv ≤ maxLen ∧ cur.size = cv * 4 ∧ cur.toList.take (l.length * 4) = ecells l := by
  rcases h.2 with ⟨e2, _⟩ | ⟨g', c', cur, e2, hB, hg', h1, h2, h3, h4⟩
  · simp at e2
  · simp only [Value.slice.injEq, Option.some.injEq, Addr.mk.injEq] at e2
    rw [e2.1.1, e2.2.2]
    exact ⟨cur, hg', hB, h1, h2, h3, h4⟩
theorem ERow.form (h : ERow B w av cv l) : (av = none ∧ l = [] ∧ cv = 0) ∨ ∃ g, av = some ⟨g, 0, none⟩ := by
  rcases h.2 with ⟨e2, e3⟩ | ⟨g', _, cur, e2, hB, hg', _⟩
  · simp only [Value.slice.injEq] at e2
    exact .inl ⟨e2.1, List.eq_nil_of_length_eq_zero e3, e2.2.2⟩
  · simp only [Value.slice.injEq] at e2
    exact .inr ⟨g', e2.1⟩
theorem ERow.own (h : ERow B w av cv l) {g : Nat} (e : Value.ownBlock (.slice av l.length cv) = some g) : av = some ⟨g, 0, none⟩ := by
  rcases h.form with ⟨rfl, _⟩ | ⟨g', rfl⟩
  · simp [Value.ownBlock] at e
  · simp [Value.ownBlock] at e
    rw [e]
theorem ERow.same (h : ERow B w av cv l) (e : ∀ g, av = some ⟨g, 0, none⟩ → w'.heap[g]? = w.heap[g]?) : ERow B w' av cv l := by
  refine ⟨h.1, ?_⟩
  rcases h.2 with h1 | ⟨g, cap', cur, hv, hb, hg, r⟩
  · exact .inl h1
  · refine .inr ⟨g, cap', cur, hv, hb, ?_, r⟩
    simp only [Value.slice.injEq] at hv
    rw [e g hv.1]
    exact hg
theorem ERow.cell {g : Nat} (h : ERow B w (some ⟨g, 0, none⟩) cv l) {k : Nat} (hk : k < l.length) : w.cell? ⟨g, k * 4, none⟩ = some (.int .i64 l[k].x) ∧ w.cell? ⟨g, k * 4 + 1, none⟩ = some (.int .i64 l[k].z) ∧ w.cell? ⟨g, k * 4 + 2, none⟩ = some (.int .i64 l[k].v) ∧ w.cell? ⟨g, k * 4 + 3, none⟩ = some (.bool l[k].p) := by
  have hc := h.cells (g := g) rfl
  have c : ∀ j v, j < 4 → (ecell l[k])[j]? = some v → w.cell? ⟨g, k * 4 + j, none⟩ = some v := fun j v hj hv => by
    have := hc (k * 4 + j) v (by rw [ecells_at l k hk j hj]; exact hv)
    rw [Addr.add_lit, Nat.zero_add] at this
    exact this
  exact ⟨c 0 _ (by omega) rfl, c 1 _ (by omega) rfl, c 2 _ (by omega) rfl, c 3 _ (by omega) rfl⟩
theorem ERow.free {g : Nat} (h : ERow B w (some ⟨g, 0, none⟩) cv l) (k : Nat) : w.frozen? ⟨g, k, none⟩ = false := by
  obtain ⟨cur, hg, _⟩ := h.blk
  exact frozen_of_row w g k _ 43 hg
end
/-- What belongs to the document's cache. -/
def isD : Obj → Bool
  | .cells _ t _ => t == 29 || t == 43
  | _ => false
/-- The document's cache at r. -/
structure Rc (B : Nat) (w : World) (r : Nat) (m : Int) (l : List E) (av : Option Addr) (cv : Nat) : Prop where
  hd : w.heap[r]? = some (.cells #[.int .i64 m, .slice av l.length cv] 29 (0, 0))
  row : ERow B w av cv l
  lo : B ≤ r
  sz : l.length ≤ 1000
section
variable {B : Nat} {w w' : World} {r : Nat} {m : Int} {l : List E} {av : Option Addr} {cv : Nat}
theorem Rc.lt (h : Rc B w r m l av cv) : r < w.heap.size := (Array.getElem?_eq_some_iff.1 h.hd).1
theorem Rc.c0 (h : Rc B w r m l av cv) : w.cell? ⟨r, 0, none⟩ = some (.int .i64 m) := by rw [cell_of_row w r 0 _ 29 (0, 0) h.hd]; rfl
theorem Rc.c1 (h : Rc B w r m l av cv) : w.cell? ⟨r, 1, none⟩ = some (.slice av l.length cv) := by rw [cell_of_row w r 1 _ 29 (0, 0) h.hd]; rfl
theorem Rc.free (h : Rc B w r m l av cv) (k : Nat) : w.frozen? ⟨r, k, none⟩ = false := frozen_of_row w r k _ 29 h.hd
theorem Rc.blks (h : Rc B w r m l av cv) : ∀ (k : Nat), (k = r ∨ av = some ⟨k, 0, none⟩) → ∃ o, w.heap[k]? = some o ∧ isD o = true ∧ B ≤ k := fun k hk => by
  rcases hk with rfl | rfl
  · exact ⟨_, h.hd, rfl, h.lo⟩
  · obtain ⟨cur, hg, hB, _⟩ := h.row.blk
    exact ⟨_, hg, rfl, hB⟩
theorem Rc.on (h : Rc B w r m l av cv) (hb : Below w.heap.size w w') : Rc B w' r m l av cv :=
  ⟨(hb.block r h.lt).trans h.hd, h.row.same (fun g e => by
    obtain ⟨o, ho, _⟩ := h.blks g (.inr e)
    exact hb.block g (Array.getElem?_eq_some_iff.1 ho).1), h.lo, h.sz⟩
theorem Rc.keep {T : Obj → Bool} {B' : Nat} (h : Rc B w r m l av cv) (hk : KeepT T B' w w') (hT : ∀ o, isD o = true → T o = false) : Rc B w' r m l av cv :=
  ⟨hk.typ r _ h.hd (hT _ rfl), h.row.same (fun g e => by
    obtain ⟨o, ho, h1, _⟩ := h.blks g (.inr e)
    exact (hk.typ g o ho (hT o h1)).trans ho.symm), h.lo, h.sz⟩
end
/-- Where a chunk is; -1: nowhere. -/
def placeE (l : List E) (x z : Int) : Int := match l.findIdx? (atE x z) with
  | none => -1
  | some k => (k : Int)
set_option maxHeartbeats 1000000 in
theorem rplace_c {B : Nat} {w : World} {r : Nat} {m : Int} {l : List E} {av : Option Addr} {cv : Nat} (h : Rc B w r m l av cv) (x z : Int) :
    Calls Try.prog 28 #[.pointer (some ⟨r, 0, none⟩), valA x z] w fun e w' => e = .returned (.int .i64 (placeE l x z)) ∧ Below w.heap.size w w' := by
  obtain ⟨Post, hPost⟩ : ∃ Post : Ending → World → Prop, Post = fun e w' => e = .returned (.int .i64 (placeE l x z)) ∧ Below w.heap.size w w' := ⟨_, rfl⟩
  rw [← hPost]
  have HP : Hid (∀ v w', placeE l x z = v → Below w.heap.size w w' → Post (.returned (.int .i64 v)) w') := fun v w' h0 h1 => by rw [hPost, h0]; exact ⟨rfl, h1⟩
  clear hPost
  obtain ⟨hb0, x0, x1⟩ := box_new w x z
  have HA : Hid (Rc B w r m l av cv) := h
  have HB : Hid (Below w.heap.size w (w.alloc (.cells #[.int .i64 x, .int .i64 z] 31))) := hb0
  have hsz := h.sz
  clear h hb0
  go_enter Try.func28, Try.ntmps28
  go_upto_region 1 with fail
  have HX : Hid ((w.alloc (.cells #[.int .i64 x, .int .i64 z] 31)).cell? ⟨w.heap.size, 0, none⟩ = some (.int .i64 x) ∧ (w.alloc (.cells #[.int .i64 x, .int .i64 z] 31)).cell? ⟨w.heap.size, 1, none⟩ = some (.int .i64 z)) := ⟨x0, x1⟩
  clear x0 x1
  generalize w.alloc (.cells #[.int .i64 x, .int .i64 z] 31) = w0 at *
  go_wp2
  go_loopw [5] (fun vi wr => ∃ k : Nat, vi = .int .i64 (k : Int) ∧ k ≤ l.length ∧ Hid ((∀ j (hj : j < l.length), j < k → atE x z l[j] = false) ∧ Below w.heap.size w wr ∧ wr.cell? ⟨w.heap.size, 0, none⟩ = some (.int .i64 x) ∧ wr.cell? ⟨w.heap.size, 1, none⟩ = some (.int .i64 z))) (fun vi _ => l.length - (intOf vi).toNat)
  case atStart => exact ⟨0, rfl, Nat.zero_le _, fun j hj hk => by omega, HB.out, HX.out⟩
  case round =>
    obtain ⟨k, rfl, hk, HI⟩ := hrel
    obtain ⟨hno, hb, x0, x1⟩ := HI.out
    have R0 := HA.out.on hb
    have c1 := R0.c1
    by_cases hlt : k < l.length
    · have hlt' : (k : Int) < (l.length : Int) := by omega
      rcases R0.row.form with ⟨_, he, _⟩ | ⟨g, rfl⟩
      · rw [he] at hlt; simp at hlt
      obtain ⟨e0, e1, _, _⟩ := R0.row.cell hlt
      have HI3 : Hid (∀ nq, Below w.heap.size w (wr.drewN nq) ∧ (wr.drewN nq).cell? ⟨w.heap.size, 0, none⟩ = some (.int .i64 x) ∧ (wr.drewN nq).cell? ⟨w.heap.size, 1, none⟩ = some (.int .i64 z)) := fun nq => ⟨hb.trans (⟨rfl, rfl, rfl, Nat.le_refl _, fun _ _ => rfl⟩), x0, x1⟩
      have HNo : Hid (∀ j (hj : j < l.length), j < k → atE x z l[j] = false) := hno
      have HAt : Hid (atE x z l[k] = decide (l[k].x = x ∧ l[k].z = z)) := rfl
      have HF : Hid (∀ hx : atE x z l[k] = true, placeE l x z = (k : Int)) := fun hx => by
        have : l.findIdx? (atE x z) = some k := by
          rw [List.findIdx?_eq_some_iff_getElem]
          exact ⟨hlt, hx, fun j hj => by rw [hno j (by omega) hj]; simp⟩
        unfold placeE
        rw [this]
      obtain ⟨cur, _, _, hcv, _⟩ := R0.row.blk
      clear hno hb HI R0 HX HB
      generalize l[k].x = p at *
      generalize l[k].z = q at *
      by_cases h1 : p = x
      · by_cases h2 : q = z
        · have HR := HF.out (by rw [HAt.out, h1, h2]; simp)
          subst h1 h2
          have R := fun nq => HP.out _ _ HR (HI3.out nq).1
          clear HP HF HAt HNo HR HI3
          go_wp2
          go_big_quiet (fail)
          have R2 := R nq
          clear R
          go_wp2
          exact R2
        · have HE : Hid (atE x z l[k] = false) := by have := HAt.out; rw [this]; exact decide_eq_false (fun h => h2 h.2)
          subst h1
          clear HAt HF
          go_wp2
          go_big_quiet (fail)
          go_wp2
          go_roundw
          case rel => exact ⟨k + 1, by go_num, by omega, fun j hj hjk => (by by_cases e : j = k; · subst e; exact HE.out
                                                                             · exact HNo.out j hj (by omega)), HI3.out nq⟩
          case measure => simp [intOf]; omega
      · have HE : Hid (atE x z l[k] = false) := by have := HAt.out; rw [this]; exact decide_eq_false (fun h => h1 h.1)
        clear HAt HF
        go_wp2
        go_big_quiet (fail)
        go_wp2
        go_roundw
        case rel => exact ⟨k + 1, by go_num, by omega, fun j hj hjk => (by by_cases e : j = k; · subst e; exact HE.out
                                                                           · exact HNo.out j hj (by omega)), HI3.out nq⟩
        case measure => simp [intOf]; omega
    · obtain rfl : k = l.length := by omega
      have hn : placeE l x z = -1 := by
        have : l.findIdx? (atE x z) = none := by
          rw [List.findIdx?_eq_none_iff]
          intro e he
          obtain ⟨j, hj, rfl⟩ := List.getElem_of_mem he
          exact hno j hj hj
        unfold placeE
        rw [this]
      have R := HP.out _ wr hn hb
      clear hno hn hb HI R0 HP HX HB HA x0 x1
      go_wp2
      exact R
/-- Pinned. -/
theorem pins_take {l : List E} {k : Nat} (h : k < l.length) : pins (l.take (k + 1)) = pins (l.take k) + if l[k].p then 1 else 0 := by
  unfold pins
  rw [List.take_succ_eq_append_getElem h, List.filter_append, List.length_append]
  cases hp : l[k].p <;> simp [hp]
theorem rpinned_c {B : Nat} {w : World} {r : Nat} {m : Int} {l : List E} {av : Option Addr} {cv : Nat} (h : Rc B w r m l av cv) :
    Calls Try.prog 23 #[.pointer (some ⟨r, 0, none⟩)] w fun e w' => e = .returned (.int .i64 (pins l : Int)) ∧ w' = w := by
  have c1 := h.c1
  have HA : Hid (Rc B w r m l av cv) := h
  have hsz := h.sz
  have HL : Hid (pins (l.take l.length) = pins l) := (show pins (l.take l.length) = pins l from by rw [List.take_length])
  have hb : ∀ k, pins (l.take k) ≤ k := fun k => by
    unfold pins
    exact Nat.le_trans (List.length_filter_le _ _) (List.length_take_le _ _)
  have HBd : Hid (∀ k, pins (l.take k) ≤ k) := hb
  clear h hb
  go_enter Try.func23, Try.ntmps23
  go_wp2
  go_loopw [3, 4] (fun vn vi wr => ∃ k : Nat, vi = .int .i64 (k : Int) ∧ vn = .int .i64 (pins (l.take k) : Int) ∧ k ≤ l.length ∧ wr = w) (fun _ vi _ => l.length - (intOf vi).toNat)
  case atStart => exact ⟨0, rfl, rfl, Nat.zero_le _, rfl⟩
  case round =>
    obtain ⟨k, rfl, rfl, hk, hw⟩ := hrel
    subst hw
    by_cases hlt : k < l.length
    · have hlt' : (k : Int) < (l.length : Int) := by omega
      rcases HA.out.row.form with ⟨_, he, _⟩ | ⟨g, rfl⟩
      · rw [he] at hlt; simp at hlt
      obtain ⟨_, _, _, e3⟩ := HA.out.row.cell hlt
      obtain ⟨cur, _, _, hcv, _⟩ := HA.out.row.blk
      have HS : Hid (pins (l.take (k + 1)) = pins (l.take k) + if l[k].p then 1 else 0) := pins_take hlt
      have hbk := HBd.out k
      generalize pins (l.take k) = P at *
      cases hp : l[k].p
      · rw [hp] at e3
        have HE : Hid (pins (l.take (k + 1)) = P) := by have := HS.out; rw [hp] at this; exact this
        clear HS
        go_wp2
        go_roundw
        case rel => exact ⟨k + 1, by go_num, by rw [HE.out], by omega, trivial⟩
        case measure => simp [intOf]; omega
      · rw [hp] at e3
        have HE : Hid (pins (l.take (k + 1)) = P + 1) := by have := HS.out; rw [hp] at this; exact this
        clear HS
        go_wp2
        go_roundw
        case rel => exact ⟨k + 1, by go_num, by rw [HE.out]; go_num, by omega, trivial⟩
        case measure => simp [intOf]; omega
    · obtain rfl : k = l.length := by omega
      have e := HL.out
      rw [e]
      go_wp2
      go_ret
      exact ⟨rfl, rfl⟩
end Go.Proofs.Ytpfhgkgkbefigaa
