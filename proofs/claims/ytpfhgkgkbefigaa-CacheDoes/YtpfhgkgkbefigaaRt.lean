/-
  The document's cache: Trim.
-/
import Derived.Test.YtpfhgkgkbefigaaRp
set_option maxRecDepth 20000
namespace Go.Proofs.Ytpfhgkgkbefigaa
open Go.RowKit Go.Maps

theorem idx_at {l : List E} (ha : Apart l) {k : Nat} (hk : k < l.length) : l.findIdx? (atE l[k].x l[k].z) = some k := by
  rw [List.findIdx?_eq_some_iff_getElem]
  refine ⟨hk, by simp [atE], fun j hj => ?_⟩
  have := List.pairwise_iff_getElem.1 ha j k (by omega) hk hj
  simp only [atE, decide_eq_true_eq]
  exact this
theorem unp_take {l : List E} (h : ∀ j (hj : j < l.length), l[j].p = true) : unp l = 0 := by
  unfold unp
  rw [List.length_eq_zero_iff, List.filter_eq_nil_iff]
  intro e he
  obtain ⟨j, hj, rfl⟩ := List.getElem_of_mem he
  rw [h j hj]
  simp
theorem unp_rem {l : List E} {k : Nat} (hk : k < l.length) (hp : l[k].p = false) : unp (l.take k ++ l.drop (k + 1)) + 1 = unp l := by
  have hl : l = l.take k ++ l[k] :: l.drop (k + 1) := by
    rw [← List.drop_eq_getElem_cons hk, List.take_append_drop]
  unfold unp
  conv => rhs; rw [hl]
  rw [List.filter_append, List.filter_append, List.filter_cons, hp]
  simp only [Bool.not_false, if_true, List.length_append, List.length_cons]
  omega
theorem headU_at {l : List E} {k : Nat} (hk : k < l.length) (hp : l[k].p = false) (h : ∀ j (hj : j < l.length), j < k → l[j].p = true) : headU l = some l[k] := by
  unfold headU
  rw [List.find?_eq_some_iff_getElem]
  refine ⟨by rw [hp]; rfl, k, hk, rfl, fun j hj => ?_⟩
  rw [h j (by omega) hj]
  rfl
/-- Where the document's Trim stands. -/
structure RS (B : Nat) (w : World) (r : Nat) (m : Int) (l : List E) (l' : List E) (gs : List (Int × Int)) (av : Option Addr) (cv k : Nat) (wr : World) : Prop where
  rc : ∃ ra rcv, Rc B wr r m l' ra rcv
  kp : KeepT isD B w wr
  e1 : (trimE m l).1 = (trimE m l').1
  e2 : (trimE m l).2 = gs ++ (trimE m l').2
  row : ARow w.heap.size wr av cv gs
  pin : ∀ j (hj : j < l'.length), j < k → l'[j].p = true
  kle : k ≤ l'.length
  len : gs.length + l'.length = l.length
  ap : Apart l'
theorem RS.below {B : Nat} {w wr w' : World} {r : Nat} {m : Int} {l l' : List E} {gs : List (Int × Int)} {av : Option Addr} {cv k : Nat} (S : RS B w r m l l' gs av cv k wr) (hb : Below wr.heap.size wr w') : RS B w r m l l' gs av cv k w' := by
  obtain ⟨ra, rcv, h⟩ := S.rc
  exact ⟨⟨ra, rcv, h.on hb⟩, S.kp.trans (KeepT.of_below hb), S.e1, S.e2, S.row.below hb, S.pin, S.kle, S.len, S.ap⟩
theorem is31_D : ∀ o, isD o = true → is31 o = false := fun o ho => by
  cases o with
  | cells cs t fz =>
    unfold isD at ho
    unfold is31
    simp only [Bool.or_eq_true, beq_iff_eq] at ho
    rcases ho with rfl | rfl <;> rfl
  | _ => rfl
/-- One that is not pinned goes. -/
theorem RS.go {B : Nat} {w w1 : World} {r : Nat} {m : Int} {l l' : List E} {gs : List (Int × Int)} {av : Option Addr} {cv k : Nat} (S : RS B w r m l l' gs av cv k w1) (hk : k < l'.length) (hp : l'[k].p = false) (hm : m < (unp l' : Int)) {a' : Option Addr} {c' : Nat} {w3 : World}
    (h1 : ARow w.heap.size w3 a' c' (gs ++ [(l'[k].x, l'[k].z)])) (hg : (w1.alloc (.cells #[.int .i64 l'[k].x, .int .i64 l'[k].z] 31)).grownBy w3 (Value.ownBlock (.slice av gs.length cv))) :
    Calls Try.prog 29 #[.pointer (some ⟨r, 0, none⟩), .int .i64 (k : Int)] w3 fun e w' => e = .returned (.tuple #[]) ∧ RS B w r m l (l'.take k ++ l'.drop (k + 1)) (gs ++ [(l'[k].x, l'[k].z)]) a' c' k w' := by
  obtain ⟨ra, rcv, R0⟩ := S.rc
  have hba : Below w1.heap.size w1 (w1.alloc (.cells #[.int .i64 l'[k].x, .int .i64 l'[k].z] 31)) := (Below.refl _ _).alloc (Nat.le_refl _) _
  have hrow1 := S.row.below hba
  have hkg : KeepT is31 0 (w1.alloc (.cells #[.int .i64 l'[k].x, .int .i64 l'[k].z] 31)) w3 := hrow1.grown hg (Nat.zero_le _)
  have hown : ∀ gg, Value.ownBlock (.slice av gs.length cv) = some gg → w.heap.size ≤ gg := fun gg e => (World.ownsRow.lt hrow1 gg e).1
  have R3 : Rc B w3 r m l' ra rcv := (R0.on hba).keep hkg is31_D
  have K3 : KeepT isD B w w3 := (S.kp.trans (KeepT.of_below hba)).grown_new hg hown
  obtain ⟨_, hrm, _, _, _⟩ := rem_idx S.ap (idx_at S.ap hk)
  have hu := unp_rem hk hp
  have hst := trim_step hm (headU_at hk hp S.pin) (by rw [hrm]; exact hu)
  rw [hrm] at hst
  refine (rwithout_c R3 hk).mono ?_
  rintro e w' ⟨rfl, ⟨a2, c2, q1, _⟩, q3⟩
  have hlen : (l'.take k ++ l'.drop (k + 1)).length = l'.length - 1 := by rw [List.length_append, List.length_take, List.length_drop]; omega
  refine ⟨rfl, ⟨a2, c2, q1⟩, K3.trans (KeepT.of_chg q3 (fun k' o hk' ho => by
    subst hk'
    rw [R3.hd] at ho
    cases ho
    exact ⟨R3.lo, rfl⟩)), by rw [S.e1, hst], by rw [S.e2, hst, List.append_assoc]; rfl, h1.same (fun g e => ?_), fun j hj hjk => ?_, by rw [hlen]; omega, by rw [hlen, List.length_append, List.length_singleton]; have := S.len; omega, by rw [← hrm]; exact S.ap.rem _ _⟩
  · subst e
    obtain ⟨cur, hc, _⟩ := h1.blk
    exact q3.block g (Array.getElem?_eq_some_iff.1 hc).1 (fun e => by
      subst e
      rw [R3.hd] at hc
      cases hc)
  · rw [List.getElem_append_left (by rw [List.length_take]; omega), List.getElem_take]
    exact S.pin j (by omega) hjk
set_option maxHeartbeats 1000000 in
theorem rtrim_c {B : Nat} {w : World} {r : Nat} {m : Int} {l : List E} {av : Option Addr} {cv : Nat} (h : Rc B w r m l av cv) (ha : Apart l) (hmo : 1 ≤ m) :
    Calls Try.prog 20 #[.pointer (some ⟨r, 0, none⟩)] w fun e w' => ∃ a c, e = .returned (.slice a (trimE m l).2.length c) ∧ ARow w.heap.size w' a c (trimE m l).2 ∧ (∃ a' c', Rc B w' r m (trimE m l).1 a' c') ∧ KeepT isD B w w' := by
  obtain ⟨Post, hPost⟩ : ∃ Post : Ending → World → Prop, Post = fun e w' => ∃ a c, e = .returned (.slice a (trimE m l).2.length c) ∧ ARow w.heap.size w' a c (trimE m l).2 ∧ (∃ a' c', Rc B w' r m (trimE m l).1 a' c') ∧ KeepT isD B w w' := ⟨_, rfl⟩
  rw [← hPost]
  have HE : Hid (∀ l' gs a c k wr, RS B w r m l l' gs a c k wr → (unp l' : Int) ≤ m → Post (.returned (.slice a gs.length c)) wr) := fun l' gs a c k wr S hu => by
    have hd := trim_done hu
    have e2 : (trimE m l).2 = gs := by rw [S.e2, hd]; simp
    have e1 : (trimE m l).1 = l' := by rw [S.e1, hd]
    rw [hPost, e2, e1]
    exact ⟨a, c, rfl, S.row, S.rc, S.kp⟩
  clear hPost
  have hsz := h.sz
  have H0 : Hid (RS B w r m l l [] none 0 0 w) := ⟨⟨_, _, h⟩, KeepT.refl _ _ _, rfl, rfl, ARow.nil _ _, fun j _ hj => by omega, Nat.zero_le _, by simp, ha⟩
  clear h ha
  go_enter Try.func20, Try.ntmps20
  go_wp2
  go_loopw [3, 4] (fun vg vi wr => ∃ (l' : List E) (gs : List (Int × Int)) (av : Option Addr) (cv k : Nat), vi = .int .i64 (k : Int) ∧ vg = .slice av gs.length cv ∧ Hid (RS B w r m l l' gs av cv k wr)) (fun vg vi _ => 3000 - (match vg with | .slice _ n _ => n | _ => 0) - (intOf vi).toNat)
  case atStart => exact ⟨l, [], none, 0, 0, rfl, rfl, H0⟩
  case round =>
    obtain ⟨l', gs, av, cv, k, rfl, rfl, HS⟩ := hrel
    have S := HS.out
    obtain ⟨ra, rcv, R0⟩ := S.rc
    have c0 := R0.c0
    have c1 := R0.c1
    have hlen := S.len
    have hkle := S.kle
    have hup := unp_pins l'
    by_cases hlt : k < l'.length
    · have hlt' : (k : Int) < (l'.length : Int) := by omega
      rcases R0.row.form with ⟨_, he, _⟩ | ⟨g, rfl⟩
      · rw [he] at hlt; simp at hlt
      obtain ⟨e0, e1, _, e3⟩ := R0.row.cell hlt
      have hcv : l'.length ≤ rcv ∧ rcv ≤ maxLen := by
        obtain ⟨cur, _, _, hcv, hmx, _⟩ := R0.row.blk
        exact ⟨hcv, hmx⟩
      have HC : Hid (∀ n, Calls Try.prog 23 #[.pointer (some ⟨r, 0, none⟩)] (wr.drewN n) fun e w' => e = .returned (.int .i64 (pins l' : Int)) ∧ w' = wr.drewN n) := fun n => rpinned_c (R0.on (below_drewN wr n))
      by_cases hle : (l'.length : Int) - (pins l' : Int) ≤ m
      · have R : Hid (∀ n, Post (.returned (.slice av gs.length cv)) (wr.drewN n)) := fun n => HE.out _ _ _ _ _ _ (S.below (below_drewN wr n)) (by omega)
        clear HS S R0 H0 HE
        generalize pins l' = P at *
        go_wp2
        go_big_quiet ((go_at_call 23; exact Calls.quiet_of_same (HC.out _)))
        have R2 := R.out nq
        clear R
        go_wp2
        exact R2
      · cases hp : l'[k].p
        · have HG : Hid (∀ n a' c' w3, ARow w.heap.size w3 a' c' (gs ++ [(l'[k].x, l'[k].z)]) → ((wr.drewN n).alloc (.cells #[.int .i64 l'[k].x, .int .i64 l'[k].z] 31)).grownBy w3 (Value.ownBlock (.slice av gs.length cv)) → Calls Try.prog 29 #[.pointer (some ⟨r, 0, none⟩), .int .i64 (k : Int)] w3 fun e w' => e = .returned (.tuple #[]) ∧ RS B w r m l (l'.take k ++ l'.drop (k + 1)) (gs ++ [(l'[k].x, l'[k].z)]) a' c' k w') := fun n a' c' w3 h1 h2 => (S.below (below_drewN wr n)).go hlt hp (by omega) h1 h2
          have hrow := S.row
          have hksz := S.kp.size
          rw [hp] at e3
          clear HS S R0 H0 HE
          generalize l'[k].x = X at *
          generalize l'[k].z = Z at *
          generalize pins l' = P at *
          go_wp2
          go_big_quiet ((go_at_call 23; exact Calls.quiet_of_same (HC.out _)))
          have hcall := HG.out nq
          have f1 : (wr.drewN nq).cell? ⟨r, 1, none⟩ = some (.slice (some ⟨g, 0, none⟩) l'.length rcv) := c1
          have f2 : (wr.drewN nq).cell? ⟨g, k * 4, none⟩ = some (.int .i64 X) := e0
          have f3 : (wr.drewN nq).cell? ⟨g, k * 4 + 1, none⟩ = some (.int .i64 Z) := e1
          have f4 : (wr.drewN nq).cell? ⟨g, k * 4 + 3, none⟩ = some (.bool false) := e3
          have hrow1 := hrow.below (below_drewN wr nq)
          have hsz1 : w.heap.size ≤ (wr.drewN nq).heap.size := hksz
          clear HG c1 e0 e1 e3 hrow hksz c0 HC
          generalize wr.drewN nq = w1 at *
          have hx2 := heap_alloc_new w1 (.cells #[.int .i64 X, .int .i64 Z] 31)
          have hb1 : Below w1.heap.size w1 (w1.alloc (.cells #[.int .i64 X, .int .i64 Z] 31)) := (Below.refl _ _).alloc (Nat.le_refl _) _
          have hrow2 := hrow1.below hb1
          have hsz2 : w.heap.size ≤ (w1.alloc (.cells #[.int .i64 X, .int .i64 Z] 31)).heap.size := Nat.le_trans hsz1 hb1.size
          clear hrow1 hb1
          go_wp2_with (first
            | (at_builtin; refine wpList_append_at rfl (.tmp 35) (.tmp 44) rfl w.heap.size av cv gs rfl hrow2 w1.heap.size 1 X Z rfl hx2 (by omega) hsz2 ?_; intro a' c' w3 hr hg; have hc3 := hcall a' c' w3 hr hg; clear hcall hr hg)
            | (go_at_call 29; refine hc3.mono ?_; clear hc3; rintro _ w4 ⟨rfl, S4⟩; have HS4 : Hid _ := S4; clear S4))
          go_roundw
          case rel => exact ⟨_, _, a', c', k, rfl, by rw [List.length_append]; rfl, HS4⟩
          case measure => simp [intOf]; omega
        · have HR : Hid (∀ n, RS B w r m l l' gs av cv (k + 1) (wr.drewN n)) := fun n => by
            have S1 := S.below (below_drewN wr n)
            refine ⟨S1.rc, S1.kp, S1.e1, S1.e2, S1.row, fun j hj hjk => ?_, hlt, S1.len, S1.ap⟩
            by_cases e : j = k
            · subst e; exact hp
            · exact S1.pin j hj (by omega)
          rw [hp] at e3
          clear HS S R0 H0 HE
          generalize pins l' = P at *
          go_wp2
          go_big_quiet ((go_at_call 23; exact Calls.quiet_of_same (HC.out _)))
          have HS4 : Hid (RS B w r m l l' gs av cv (k + 1) (wr.drewN nq)) := HR.out nq
          have f1 : (wr.drewN nq).cell? ⟨r, 1, none⟩ = some (.slice (some ⟨g, 0, none⟩) l'.length rcv) := c1
          have f4 : (wr.drewN nq).cell? ⟨g, k * 4 + 3, none⟩ = some (.bool true) := e3
          clear HR c1 e0 e1 e3 c0 HC
          generalize wr.drewN nq = w1 at *
          go_wp2
          go_roundw
          case rel => exact ⟨l', gs, av, cv, k + 1, by go_num, rfl, HS4⟩
          case measure => simp [intOf]; omega
    · obtain rfl : k = l'.length := by omega
      have R := HE.out _ _ _ _ _ _ S (by rw [unp_take (fun j hj => S.pin j hj hj)]; omega)
      clear HS S R0 H0 HE
      go_wp2
      exact R
end Go.Proofs.Ytpfhgkgkbefigaa
