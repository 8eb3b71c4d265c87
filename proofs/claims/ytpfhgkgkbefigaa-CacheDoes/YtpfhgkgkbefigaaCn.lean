/-
  The landed cache: Pin, Unpin, Drop, New.
-/
import Derived.Test.YtpfhgkgkbefigaaCg
set_option maxRecDepth 20000
namespace Go.Proofs.Ytpfhgkgkbefigaa
open Go.RowKit Go.Maps

theorem set_map {D : Nat → It} {q q' I : List Nat} {Dm : DataW Unit} (hm : MapIs D I Dm) {b : Nat} (hb : b ∈ I) {v : Bool} (hq : ∀ k, k ≠ b → (k ∈ q' ↔ k ∈ q)) (hv : decide (b ∉ q') = v) : setE (I.map (toE D q)) (D b).x (D b).z v = I.map (toE D q') := by
  unfold setE
  rw [List.map_map]
  refine List.map_congr_left (fun a ha => ?_)
  show (if atE (D b).x (D b).z (toE D q a) = true then { toE D q a with p := v } else toE D q a) = toE D q' a
  by_cases e : a = b
  · subst e
    rw [if_pos (by simp [atE, toE])]
    unfold toE
    rw [hv]
  · have : ¬ ((D a).x = (D b).x ∧ (D a).z = (D b).z) := fun h => e (hm.one ha hb h.1 h.2)
    rw [if_neg (by simpa [atE, toE] using this)]
    unfold toE
    rw [decide_eq_decide.2 (not_congr (hq a e))]
theorem CC.qlen {B : Nat} {w : World} {c : Nat} {h : Hd} {av : Option Addr} {cap : Nat} {D : Nat → It} {q I : List Nat} {Dm : DataW Unit} (H : CC B w c h av cap D q I Dm) : q.length ≤ I.length := by
  have hp : (I.filter (fun a => decide (a ∈ q))).Perm q := by
    rw [List.perm_ext_iff_of_nodup (H.mi.nod.filter _) H.qh.nod]
    intro a
    rw [List.mem_filter]
    exact ⟨fun h => by simpa using h.2, fun h => ⟨H.sub a h, by simpa using h⟩⟩
  rw [← hp.length_eq]
  exact List.length_filter_le _ _
/-- What Pin, Unpin answer. -/
def PinSay (B : Nat) (w : World) (c : Nat) (most : Int) (l : List E) (N : Nat) (x z : Int) (b : Bool) (e : Ending) (w' : World) : Prop :=
  e = .returned (.bool (okE l x z b)) ∧ CS B w' c most (pinE l x z b) N ∧ KeepT isP B w w'
/-- What Drop answers. -/
def DropSay (B : Nat) (w : World) (c : Nat) (most : Int) (l : List E) (N : Nat) (x z : Int) (e : Ending) (w' : World) : Prop :=
  e = .returned (.bool (okE l x z true)) ∧ CS B w' c most (dropE l x z) N ∧ KeepT isP B w w'
section
variable {B : Nat} {w : World} {c : Nat} {most : Int} {l : List E} {N : Nat}
/-- No such chunk, or it is so already: nothing happens. -/
theorem CI.idle {h : Hd} {av : Option Addr} {cap : Nat} {D : Nat → It} {q I : List Nat} {Dm : DataW Unit} (H : CI B w c most l N h av cap D q I Dm) {x z : Int} {b : Bool} (hok : okE l x z b = false) {w2 : World} (hb : Below w.heap.size w w2) :
    PinSay B w c most l N x z b (.returned (.bool false)) w2 := by
  refine ⟨by rw [hok], ?_, KeepT.of_below hb⟩
  unfold pinE
  rw [hok]
  exact (H.below hb).cs
theorem CI.idleD {h : Hd} {av : Option Addr} {cap : Nat} {D : Nat → It} {q I : List Nat} {Dm : DataW Unit} (H : CI B w c most l N h av cap D q I Dm) {x z : Int} (hok : okE l x z true = false) {w2 : World} (hb : Below w.heap.size w w2) :
    DropSay B w c most l N x z (.returned (.bool false)) w2 := by
  refine ⟨by rw [hok], ?_, KeepT.of_below hb⟩
  unfold dropE
  rw [hok]
  exact (H.below hb).cs
/-- One is pinned, or let go again. -/
theorem CI.turned {h : Hd} {av : Option Addr} {cap : Nat} {D : Nat → It} {q I : List Nat} {Dm : DataW Unit} (H : CI B w c most l N h av cap D q I Dm) {x z : Int} {v : Bool} {b : Nat} (hb : b ∈ I) (ex : (D b).x = x) (ez : (D b).z = z) (hok : okE l x z v = true)
    {w2 : World} {av' : Option Addr} {cap' : Nat} {q' : List Nat} (cc : CC B w2 c h av' cap' D q' I Dm) (hq : ∀ k, k ≠ b → (k ∈ q' ↔ k ∈ q)) (hv : decide (b ∉ q') = v) (hk : KeepT isP B w w2) : PinSay B w c most l N x z v (.returned (.bool true)) w2 := by
  refine ⟨by rw [hok], ?_, hk⟩
  unfold pinE
  rw [hok, if_pos rfl]
  refine ⟨h, av', cap', D, q', I, Dm, cc, H.mo, H.us, H.ln, H.srt, H.top, ?_⟩
  rw [H.eq, ← ex, ← ez, set_map H.cc.mi hb hq hv]

theorem pin_c (H : CS B w c most l N) {x z : Int} (hx : I64 x) (hz : I64 z) : Calls Try.prog 13 #[.pointer (some ⟨c, 0, none⟩), valA x z] w (PinSay B w c most l N x z true) := by
  obtain ⟨h, av, cap, D, q, I, Dm, H⟩ := H
  obtain ⟨Post, hPost⟩ : ∃ Post : Ending → World → Prop, Post = PinSay B w c most l N x z true := ⟨_, rfl⟩
  rw [← hPost]
  have HP : Hid (∀ e w', PinSay B w c most l N x z true e w' → Post e w') := fun e w' h1 => by rw [hPost]; exact h1
  clear hPost
  obtain ⟨hb0, x0, x1⟩ := box_new w x z
  have H1 := H.below hb0
  have hfd := find_c H1.cc hx hz
  have hfm := find_map D q I x z
  rw [← H.eq] at hfm
  cases hlk : lookI D I x z with
  | none =>
    rw [hlk] at hfd hfm
    have hok : okE l x z true = false := by unfold okE; rw [hfm]; rfl
    have R : Hid (∀ w2, Below (w.alloc (.cells #[.int .i64 x, .int .i64 z] 31)).heap.size (w.alloc (.cells #[.int .i64 x, .int .i64 z] 31)) w2 → Post (.returned (.bool false)) w2) := fun w2 hb => HP.out _ _ (H.idle hok (hb0.trans (hb.mono hb0.size)))
    clear HP H H1 hfm hlk hb0 hok
    unfold pvo at hfd
    go_enter Try.func13, Try.ntmps13
    go_upto_region 1 with fail
    generalize w.alloc (.cells #[.int .i64 x, .int .i64 z] 31) = w0 at *
    go_wp2_with fail
    refine hfd.mono ?_
    clear hfd
    rintro _ w2 ⟨rfl, hb⟩
    have R2 := R.out w2 hb
    clear R hb
    go_wp2
    exact R2
  | some b =>
    rw [hlk] at hfd hfm
    obtain ⟨hb, ex, ez⟩ := lookI_some hlk
    obtain ⟨p, hi, hpq, hpl, hp1, hp2⟩ := H.cc.item hb
    have HI : Hid (∀ w2, Below (w.alloc (.cells #[.int .i64 x, .int .i64 z] 31)).heap.size (w.alloc (.cells #[.int .i64 x, .int .i64 z] 31)) w2 → Below w.heap.size w w2) := fun w2 hb => hb0.trans (hb.mono hb0.size)
    by_cases hbq : b ∈ q
    · have hok : okE l x z true = true := by
        unfold okE
        rw [hfm]
        show (decide (b ∉ q) != true) = true
        simp [hbq]
      have hne : ¬ p = -1 := fun e => (hpq.1 e) hbq
      obtain ⟨P, rfl⟩ : ∃ P : Nat, p = (P : Int) := ⟨p.toNat, by omega⟩
      obtain ⟨hP, hPb⟩ := hpl P rfl hbq
      have HU : Hid (∀ w2, Below w.heap.size w w2 → (w2.cell? ⟨b, 4, none⟩ = some (.int .i64 (P : Int)) ∧ Calls Try.prog 31 #[pv b] w2 fun e w' => e = .returned (.bool false) ∧ w' = w2) ∧ Calls Try.prog 32 #[hv c, .int .i64 (P : Int)] w2.drew fun e w3 => e = .returned (.iface 54 (pv b)) ∧ Post (.returned (.bool true)) w3) := fun w2 hb2 => by
        have H2 := H.below hb2
        have hi2 : Item w2 b (D b) (P : Int) := hi.same (hb2.block _ hi.lt)
        refine ⟨⟨hi2.c4, by have := pinned_c hi2; rw [decide_eq_false hne] at this; exact this⟩, ?_⟩
        have hrm := hremove_c (w := w2.drew) (H2.cc.qh.same (fun _ _ => rfl)) H2.cc.hp hP
        rw [hPb] at hrm
        refine hrm.mono ?_
        rintro e w3 ⟨rfl, q', h1, h2, h3, h4, h5⟩
        have hbq' : b ∉ q' := (List.nodup_cons.1 (h1.nodup_iff.2 H.cc.qh.nod)).1
        have hmem : ∀ k, k ≠ b → (k ∈ q' ↔ k ∈ q) := fun k hk => by
          rw [← h1.mem_iff, List.mem_cons]
          exact ⟨.inr, fun h => h.resolve_left hk⟩
        have H0 : CC B w2.drew c h av cap D q I Dm := H2.cc.below ⟨rfl, rfl, rfl, Nat.le_refl _, fun _ _ => rfl⟩
        have hF : ∀ k, Qf c av q k → Ff B w2.drew c av q b k := fun k hk => .inl hk
        refine ⟨rfl, HP.out _ _ (H.turned hb ex ez hok (H0.next hb rfl h2 h4 h5 hF (fun _ _ _ => rfl) ⟨rfl, rfl⟩ hmem (fun _ => h3)) hmem (by simpa using hbq') ?_)⟩
        exact (KeepT.of_below hb2).trans (KeepT.trans (b := w2.drew) ⟨rfl, rfl, rfl, Nat.le_refl _, fun _ _ _ => rfl, fun _ _ h _ => h⟩ (H0.keepT hb h5 hF))
      clear HP H H1 hfm hlk hb0 hok hpq hpl hi ex ez hPb
      unfold pvo at hfd
      unfold pv at *
      go_enter Try.func13, Try.ntmps13
      go_upto_region 1 with fail
      generalize w.alloc (.cells #[.int .i64 x, .int .i64 z] 31) = w0 at *
      go_wp2_with fail
      refine hfd.mono ?_
      clear hfd
      rintro _ w2 ⟨rfl, hb2⟩
      obtain ⟨⟨b4, hpc⟩, hrm⟩ := HU.out w2 (HI.out w2 hb2)
      clear HU HI hb2 x0 x1
      go_wp2_with fail
      refine hpc.mono ?_
      clear hpc
      rintro _ w3 ⟨rfl, hw3⟩
      subst hw3
      go_wp2
      go_region_with (go_at_call 32; refine hrm.mono ?_; rintro _ w4 ⟨rfl, R⟩)
      go_wp2
      exact R
    · have hok : okE l x z true = false := by
        unfold okE
        rw [hfm]
        show (decide (b ∉ q) != true) = false
        simp [hbq]
      have hp' := hpq.2 hbq
      have HU : Hid (∀ w2, Below w.heap.size w w2 → (Calls Try.prog 31 #[pv b] w2 fun e w' => e = .returned (.bool true) ∧ w' = w2) ∧ Post (.returned (.bool false)) w2) := fun w2 hb2 => by
        have hi2 : Item w2 b (D b) p := hi.same (hb2.block _ hi.lt)
        exact ⟨by have := pinned_c hi2; rw [decide_eq_true hp'] at this; exact this, HP.out _ _ (H.idle hok hb2)⟩
      clear HP H H1 hfm hlk hb0 hok hpq hpl hi ex ez
      unfold pvo at hfd
      unfold pv at *
      go_enter Try.func13, Try.ntmps13
      go_upto_region 1 with fail
      generalize w.alloc (.cells #[.int .i64 x, .int .i64 z] 31) = w0 at *
      go_wp2_with fail
      refine hfd.mono ?_
      clear hfd
      rintro _ w2 ⟨rfl, hb2⟩
      obtain ⟨hpc, R⟩ := HU.out w2 (HI.out w2 hb2)
      clear HU HI hb2 x0 x1
      go_wp2_with fail
      refine hpc.mono ?_
      clear hpc
      rintro _ w3 ⟨rfl, hw3⟩
      subst hw3
      go_wp2
      exact R
end
end Go.Proofs.Ytpfhgkgkbefigaa
