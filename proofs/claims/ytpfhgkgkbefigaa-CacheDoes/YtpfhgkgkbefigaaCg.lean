/-
  The landed cache: Get, Pin, Unpin, Drop, Pinned, New.
-/
import Derived.Test.YtpfhgkgkbefigaaSm
set_option maxRecDepth 20000
namespace Go.Proofs.Ytpfhgkgkbefigaa
open Go.RowKit Go.Maps

theorem box_new (w : World) (x z : Int) : Below w.heap.size w (w.alloc (.cells #[.int .i64 x, .int .i64 z] 31)) ∧ (w.alloc (.cells #[.int .i64 x, .int .i64 z] 31)).cell? ⟨w.heap.size, 0, none⟩ = some (.int .i64 x) ∧ (w.alloc (.cells #[.int .i64 x, .int .i64 z] 31)).cell? ⟨w.heap.size, 1, none⟩ = some (.int .i64 z) := by
  have hN := heap_alloc_new w (.cells #[.int .i64 x, .int .i64 z] 31)
  refine ⟨(Below.refl _ _).alloc (Nat.le_refl _) _, ?_, ?_⟩
  · rw [cell_of_row _ _ 0 _ 31 (0, 0) hN]; rfl
  · rw [cell_of_row _ _ 1 _ 31 (0, 0) hN]; rfl
theorem CI.below {B : Nat} {w w' : World} {c : Nat} {most : Int} {l : List E} {N : Nat} {h : Hd} {av : Option Addr} {cap : Nat} {D : Nat → It} {q I : List Nat} {Dm : DataW Unit} (H : CI B w c most l N h av cap D q I Dm) (hb : Below w.heap.size w w') : CI B w' c most l N h av cap D q I Dm :=
  ⟨H.cc.below hb, H.mo, H.us, H.ln, H.srt, H.top, H.eq⟩
theorem CI.cs {B : Nat} {w : World} {c : Nat} {most : Int} {l : List E} {N : Nat} {h : Hd} {av : Option Addr} {cap : Nat} {D : Nat → It} {q I : List Nat} {Dm : DataW Unit} (H : CI B w c most l N h av cap D q I Dm) : CS B w c most l N := ⟨h, av, cap, D, q, I, Dm, H⟩
/-- What Get answers. -/
def GetSay (B : Nat) (w : World) (c : Nat) (most : Int) (l : List E) (N : Nat) (x z : Int) (e : Ending) (w' : World) : Prop :=
  e = .returned (.tuple #[.int .i64 (valE (findE l x z)), .bool (findE l x z).isSome]) ∧ CS B w' c most (getE l x z) (N + 1) ∧ KeepT isP B w w'
theorem get_c {B : Nat} {w : World} {c : Nat} {most : Int} {l : List E} {N : Nat} (H : CS B w c most l N) {x z : Int} (hx : I64 x) (hz : I64 z) (hN : N ≤ 900) :
    Calls Try.prog 11 #[.pointer (some ⟨c, 0, none⟩), valA x z] w (GetSay B w c most l N x z) := by
  obtain ⟨h, av, cap, D, q, I, Dm, H⟩ := H
  obtain ⟨Post, hPost⟩ : ∃ Post : Ending → World → Prop, Post = GetSay B w c most l N x z := ⟨_, rfl⟩
  rw [← hPost]
  have HP : Hid (∀ e w', GetSay B w c most l N x z e w' → Post e w') := fun e w' h1 => by rw [hPost]; exact h1
  clear hPost
  obtain ⟨hb0, x0, x1⟩ := box_new w x z
  have H1 := H.below hb0
  have hfd := find_c H1.cc hx hz
  have hfm := find_map D q I x z
  rw [← H.eq] at hfm
  cases hlk : lookI D I x z with
  | none =>
    rw [hlk] at hfd hfm
    have R : Hid (∀ w2, Below (w.alloc (.cells #[.int .i64 x, .int .i64 z] 31)).heap.size (w.alloc (.cells #[.int .i64 x, .int .i64 z] 31)) w2 → Post (.returned (.tuple #[.int .i64 0, .bool false])) w2) := fun w2 hb => by
      refine HP.out _ _ ⟨by rw [hfm]; rfl, ?_, (KeepT.of_below hb0).trans (KeepT.of_below hb)⟩
      unfold getE
      rw [hfm]
      exact ((H1.below hb).cs).more (Nat.le_succ N)
    clear HP H H1 hfm hlk hb0
    unfold pvo at hfd
    go_enter Try.func11, Try.ntmps11
    go_upto_region 1 with fail
    generalize w.alloc (.cells #[.int .i64 x, .int .i64 z] 31) = w0 at *
    go_wp2_with fail
    refine hfd.mono ?_
    clear hfd
    rintro _ w2 ⟨rfl, hb⟩
    have R2 := R.out w2 hb
    clear R hb
    go_wp2
    exact R2
  | some b =>
    rw [hlk] at hfd hfm
    obtain ⟨hb, ex, ez⟩ := lookI_some hlk
    have HU : Hid (∀ w2, Below (w.alloc (.cells #[.int .i64 x, .int .i64 z] 31)).heap.size (w.alloc (.cells #[.int .i64 x, .int .i64 z] 31)) w2 → Calls Try.prog 27 #[.pointer (some ⟨c, 0, none⟩), pv b] w2 fun e w3 => e = .returned (.tuple #[]) ∧ w3.cell? ⟨b, 2, none⟩ = some (.int .i64 (D b).v) ∧ Post (.returned (.tuple #[.int .i64 (D b).v, .bool true])) w3) := fun w2 hb2 => by
      have H2 := H1.below hb2
      refine (use_c H2.cc hb (by have := H.us; omega)).mono ?_
      rintro e w3 ⟨rfl, hU⟩
      have hU' := hU
      obtain ⟨q', _, cc', hk⟩ := hU'
      obtain ⟨p, hit⟩ := cc'.itemAt hb
      have hv : (updU D b (h.uses + 1) b).v = (D b).v := by rw [updU_self]
      refine ⟨rfl, by rw [hit.c2, hv], HP.out _ _ ⟨by rw [hfm]; rfl, ?_, (KeepT.of_below hb0).trans ((KeepT.of_below hb2).trans hk)⟩⟩
      have := CI.used (l := (I.erase b).map (toE D q)) (v := (D b).v) H2.cc H.mo H.us (Nat.le_succ_of_le H.ln) hb (H.srt.sublist List.erase_sublist) (fun a ha _ => H.top a ha) hU rfl rfl
      unfold getE
      rw [hfm]
      show CS B w3 c most (remE l x z ++ [toE D q b]) (N + 1)
      rw [H.eq, ← ex, ← ez, rem_map H.cc.mi hb]
      exact this
    clear HP H H1 hfm hlk hb0 ex ez
    unfold pvo at hfd
    unfold pv at *
    generalize (D b).v = v at *
    go_enter Try.func11, Try.ntmps11
    go_upto_region 1 with fail
    generalize w.alloc (.cells #[.int .i64 x, .int .i64 z] 31) = w0 at *
    go_wp2_with fail
    refine hfd.mono ?_
    clear hfd
    rintro _ w2 ⟨rfl, hb2⟩
    have hu := HU.out w2 hb2
    clear HU hb2 x0 x1
    go_wp2_with fail
    refine hu.mono ?_
    clear hu
    rintro _ w3 ⟨rfl, c2, R⟩
    go_wp2
    exact R
/-- Pinned. -/
theorem pinN_c {B : Nat} {w : World} {c : Nat} {most : Int} {l : List E} {N : Nat} (H : CS B w c most l N) :
    Calls Try.prog 22 #[.pointer (some ⟨c, 0, none⟩)] w fun e w' => e = .returned (.int .i64 (pins l : Int)) ∧ Below w.heap.size w w' := by
  obtain ⟨h, av, cap, D, q, I, Dm, H⟩ := H
  have hpl : (pins l : Int) = (Maps.size Dm : Int) - (q.length : Int) := by
    have h1 := unp_pins l
    have h2 : unp l = q.length := by
      unfold unp
      rw [H.eq, List.filter_map, List.length_map]
      have hp : (I.filter ((fun e => !e.p) ∘ toE D q)).Perm q := by
        rw [List.perm_ext_iff_of_nodup (H.cc.mi.nod.filter _) H.cc.qh.nod]
        intro a
        rw [List.mem_filter]
        show a ∈ I ∧ (!decide (a ∉ q)) = true ↔ a ∈ q
        constructor
        · intro h; simpa using h.2
        · intro h; exact ⟨H.cc.sub a h, by simpa using h⟩
      exact hp.length_eq
    have h3 : l.length = I.length := by rw [H.eq, List.length_map]
    rw [H.cc.mi.size]
    omega
  have hs : Maps.size Dm ≤ 1000 := H.cc.mp.size_le
  have hq := H.cc.qh.sz
  have hln := H.cc.mp.len Try.underlying49 0
  have hlen : ∀ n, (Builtin.len_ #[49] 0 #[.map (some h.mb)]).run Try.prog (w.drewN n) = .ok (.int .i64 (Maps.size Dm)) (w.drewN n) := fun n => (ownsMap_same (w' := w.drewN n) H.cc.mp rfl).len Try.underlying49 0
  have hlen3 : ∀ n, (Builtin.len_ #[49] 3 #[.map (some h.mb)]).run Try.prog (w.drewN n) = .ok (.int .i64 (Maps.size Dm)) (w.drewN n) := fun n => (ownsMap_same (w' := w.drewN n) H.cc.mp rfl).len Try.underlying49 3
  have c2 := H.cc.qh.hd.c2
  have c3 := H.cc.qh.hd.c3
  have HB : Hid (∀ n, Below w.heap.size w (w.drewN n)) := fun n => ⟨rfl, rfl, rfl, Nat.le_refl _, fun _ _ => rfl⟩
  rw [hpl]
  clear H hpl hln
  generalize Maps.size Dm = M at *
  generalize q.length = Q at *
  generalize h.mb = mb at *
  go_enter Try.func22, Try.ntmps22
  go_wp2
  go_big_quiet (fail)
  go_wp2
  go_ret
  exact ⟨rfl, HB.out _⟩
end Go.Proofs.Ytpfhgkgkbefigaa
