/-
  CacheDoes, walked.
-/
import Derived.Test.YtpfhgkgkbefigaaWd
import Derived.Deep.RegionWith
import Derived.Deep.CutBlock
import Derived.Deep.DeepCutAuto
set_option maxRecDepth 20000
namespace Go.Proofs.Ytpfhgkgkbefigaa
open Go.RowKit Go.Maps

theorem trimK_len : ∀ (n : Nat) (l : List E), (trimK n l).2.length ≤ n
  | 0, _ => Nat.le_refl _
  | n + 1, l => by
    show (match headU l with | none => (l, []) | some e => _).2.length ≤ n + 1
    cases headU l with
    | none => exact Nat.zero_le _
    | some e => exact Nat.succ_le_succ (trimK_len n _)
theorem trim_len {m : Int} {l : List E} (hm : 1 ≤ m) : (trimE m l).2.length ≤ l.length := by
  have h1 := trimK_len ((unp l : Int) - m).toNat l
  have h2 := unp_pins l
  unfold trimE
  omega
theorem keysE_take {l : List E} {k : Nat} (h : k < l.length) : keysE (l.take (k + 1)) = keysE (l.take k) ++ [(l[k].x, l[k].z)] := by
  unfold keysE
  rw [List.take_succ_eq_append_getElem h, List.map_append]
  rfl
theorem keysE_len (l : List E) (k : Nat) (h : k ≤ l.length) : (keysE (l.take k)).length = k := by
  unfold keysE
  rw [List.length_map, List.length_take]
  omega
/-- The row of what is kept is gathered. -/
structure Dw (W : World) (c : Nat) (m : Int) (r ob : Nat) (o : Oc) (s : List E) (n : Nat) (a : Option Addr) (cp : Nat) (gs : List (Int × Int)) (w : World) : Prop where
  dm : Dm W c m r ob o s s n w
  row : ARow W.heap.size w a cp gs
  eq : gs = keysE (s.take gs.length)
set_option maxRecDepth 100000 in
set_option maxHeartbeats 4000000 in
theorem cacheDoes_walk (m : Int) (a_l : Option Addr) (n_l c_l : Nat) (W : World) (I_m : I64 m) (Q_l : ∃ l : List Oc, l.length = n_l ∧ Ops W a_l l ∧ ∀ o ∈ l, OcOk o) :
    Calls Try.prog 3 #[.int .i64 m, .slice a_l n_l c_l] W fun e W' => e = .returned (.bool true) ∧ Below W.heap.size W W' := by
  obtain ⟨l, hl, Hl, Il⟩ := Q_l
  obtain ⟨Post, hPost⟩ : ∃ Post : Ending → World → Prop, Post = fun e W' => e = .returned (.bool true) ∧ Below W.heap.size W W' := ⟨_, rfl⟩
  rw [← hPost]
  have HP : Hid (∀ w', Below W.heap.size W w' → Post (.returned (.bool true)) w') := fun w' h1 => by rw [hPost]; exact ⟨rfl, h1⟩
  clear hPost
  unfold I64 at I_m
  have haw := awake_c W
  go_enter Try.func3, Try.ntmps3
  go_wp2_with fail
  refine haw.mono ?_
  clear haw
  rintro _ w1 ⟨rfl, hb1⟩
  have hnew := new_any m hb1
  clear hb1
  go_wp2_with fail
  refine hnew.mono ?_
  clear hnew
  rintro _ w2 ⟨p, rfl, hb2, hno, hyes⟩
  have Hno : Hid (m < 1 → p = none) := hno
  have Hyes : Hid (1 ≤ m → ∃ c, p = some ⟨c, 0, none⟩ ∧ Ls W c m [] 0 w2) := hyes
  have R := HP.out w2 hb2
  clear hno hyes
  by_cases h1 : 300 < n_l
  · have h1' : (300 : Int) < (n_l : Int) := by omega
    clear Hno Hyes HP hb2
    go_wp2
    exact R
  by_cases h3 : m < 1
  · have h1' : ¬ (300 : Int) < (n_l : Int) := by omega
    obtain rfl := Hno.out h3
    clear Hno Hyes HP hb2
    go_wp2
    exact R
  obtain ⟨c, rfl, hL0⟩ := Hyes.out (by omega)
  have h1' : ¬ (300 : Int) < (n_l : Int) := by omega
  have hmo : 1 ≤ m := by omega
  have hba : Below w2.heap.size w2 (w2.alloc (.cells #[.int .i64 m, .slice none 0 0] 29)) := (Below.refl _ _).alloc (Nat.le_refl _) _
  have HL0 : Hid (Dl W c m w2.heap.size 0 (w2.alloc (.cells #[.int .i64 m, .slice none 0 0] 29))) := ⟨[], none, 0, hL0.on hba, ⟨heap_alloc_new w2 _, ⟨rfl, .inl ⟨rfl, rfl⟩⟩, hb2.size, by simp⟩⟩
  have HHl : Hid (Ops W a_l l) := Hl
  have HIl : Hid (∀ o ∈ l, OcOk o) := Il
  clear Hno Hyes hL0 R Hl Il hb2 hba
  go_upto_region 10 with fail
  generalize w2.alloc (.cells #[.int .i64 m, .slice none 0 0] 29) = w0 at *
  generalize w2.heap.size = r at *
  go_wp2
  -- the calls
  go_loopg [8] n_l (fun g vi wr => ∃ i : Nat, g = n_l - i ∧ vi = .int .i64 (i : Int) ∧ i ≤ n_l ∧ Hid (Dl W c m r i wr))
  case atStart => exact ⟨0, rfl, rfl, Nat.zero_le _, HL0⟩
  case round =>
    obtain ⟨i, rfl, rfl, hi, HI⟩ := hrel
    obtain ⟨s, av0, cv0, hls0, hrc0⟩ := HI.out
    by_cases hlt : i < n_l
    · have hlt' : (i : Int) < (n_l : Int) := by omega
      have hil : i < l.length := by omega
      obtain ⟨b, off, rfl, hop⟩ := (HHl.out.on hls0.below) i hil
      have hok : OcOk l[i] := HIl.out _ (List.getElem_mem hil)
      obtain ⟨k0, k1, k2, k3⟩ := hop
      generalize l[i] = o at *
      have hba : Below wr.heap.size wr (wr.alloc (.cells #[.int .i64 o.k, .int .i64 o.x, .int .i64 o.z, .int .i64 o.v] 33)) := (Below.refl _ _).alloc (Nat.le_refl _) _
      have hlen := hls0.cs.len
      have hap := hls0.cs.apart
      have HD : Hid (Dm W c m r wr.heap.size o s s i (wr.alloc (.cells #[.int .i64 o.k, .int .i64 o.x, .int .i64 o.z, .int .i64 o.v] 33))) := ⟨hls0.on hba, ⟨_, _, hrc0.on hba⟩, heap_alloc_new wr _⟩
      have HA : Hid (Apart s) := hap
      have HO : Hid (OcOk o) := hok
      clear HI hls0 hrc0 hba hap hok
      go_upto_region 14 with fail
      generalize wr.alloc (.cells #[.int .i64 o.k, .int .i64 o.x, .int .i64 o.z, .int .i64 o.v] 33) = w1 at *
      generalize wr.heap.size = ob at *
      obtain ⟨o0, o1, o2, o3⟩ := HD.out.cells
      clear k0 k1 k2 k3
      generalize o.k = K at *
      go_upto_block 2 with fail
      go_cut [10] (fun v wx => v = .bool true ∧ Hid (∃ s', Dm W c m r ob o s' s' (i + 1) wx))
      case first =>
        have D := HD.out.on (Below.refl _ w1).drew
        by_cases hk0 : K = 0
        · have h9 := HD.out.put1 HO.out (by omega)
          have hap := HA.out
          clear HD HA HO HP HHl HIl HL0 D
          subst hk0
          go_wp2_with (first
            | (go_at_call 9; refine h9.mono ?_; clear h9; rintro _ w3 ⟨rfl, hE⟩; have h10 := hE.put2 hap (by omega); obtain ⟨e0, e1, e2, e3⟩ := hE.cells; have HE : Hid _ := hE; clear hE o0 o1 o2 o3)
            | (go_at_call 10; refine h10.mono ?_; clear h10; rintro _ w4 ⟨rfl, hF⟩; have HF : Hid _ := hF; clear hF))
          go_meet
          case rel => exact ⟨rfl, _, HF.out⟩
        by_cases hk1 : K = 1
        · have h11 := HD.out.get1 HO.out (by omega)
          have hap := HA.out
          clear HD HA HO HP HHl HIl HL0 D hk0
          subst hk1
          generalize hva : valE (findE s o.x o.z) = va at *
          generalize hsa : (findE s o.x o.z).isSome = sa at *
          go_wp2_with (first
            | (go_at_call 11; refine h11.mono ?_; clear h11; rintro _ w3 ⟨rfl, hE⟩; have h12 := hE.get2 hap (by omega); rw [hva, hsa] at h12; obtain ⟨e0, e1, e2, e3⟩ := hE.cells; have HE : Hid _ := hE; clear hE o0 o1 o2 o3)
            | (go_at_call 12; refine h12.mono ?_; clear h12; rintro _ w4 ⟨rfl, hF⟩; have HF : Hid _ := hF; clear hF))
          go_meet
          case rel => exact ⟨rfl, _, HF.out⟩
        by_cases hk2 : K = 2
        · have h13 := D.pin1 HO.out
          have hap := HA.out
          have hoc := HO.out
          have h14 := D.pin2 HA.out true
          clear HD HA HO HP HHl HIl HL0 D hk0 hk1
          subst hk2
          generalize hya : okE s o.x o.z true = ya at *
          go_wp2
          go_region_with (first
            | (go_at_call 13; refine h13.mono ?_; rintro _ w3 ⟨rfl, hE⟩; have g14 := hE.pin2 hap true; rw [hya] at g14; obtain ⟨e0, e1, e2, e3⟩ := hE.cells)
            | (go_at_call 14; refine g14.mono ?_; rintro _ w4 ⟨rfl, hF⟩)
            | (go_at_call 14; refine h14.mono ?_; rintro _ w3 ⟨rfl, hE⟩; have g13 := hE.pin1 hoc; rw [hya] at g13; obtain ⟨e0, e1, e2, e3⟩ := hE.cells)
            | (go_at_call 13; refine g13.mono ?_; rintro _ w4 ⟨rfl, hF⟩))
          all_goals
            have HF : Hid (Dm _ _ _ _ _ _ _ _ _ w4) := hF
            clear hF
            go_wp2
            go_meet
            case rel => exact ⟨by simp, _, HF.out.more⟩
        by_cases hk3 : K = 3
        · have h15 := D.unpin1 HO.out (by omega)
          have hap := HA.out
          have hoc := HO.out
          have h14 := D.pin2 HA.out false
          clear HD HA HO HP HHl HIl HL0 D hk0 hk1 hk2
          subst hk3
          generalize hya : okE s o.x o.z false = ya at *
          go_wp2
          go_region_with (first
            | (go_at_call 15; refine h15.mono ?_; rintro _ w3 ⟨rfl, hE⟩; have g14 := hE.pin2 hap false; rw [hya] at g14; obtain ⟨e0, e1, e2, e3⟩ := hE.cells)
            | (go_at_call 14; refine g14.mono ?_; rintro _ w4 ⟨rfl, hF⟩)
            | (go_at_call 14; refine h14.mono ?_; rintro _ w3 ⟨rfl, hE⟩; have g15 := hE.unpin1 hoc (by omega); rw [hya] at g15; obtain ⟨e0, e1, e2, e3⟩ := hE.cells)
            | (go_at_call 15; refine g15.mono ?_; rintro _ w4 ⟨rfl, hF⟩))
          all_goals
            have HF : Hid (Dm _ _ _ _ _ _ _ _ _ w4) := hF
            clear hF
            go_wp2
            go_meet
            case rel => exact ⟨by simp, _, HF.out.more⟩
        by_cases hk4 : K = 4
        · have h16 := D.drop1 HO.out
          have hap := HA.out
          have hoc := HO.out
          have h17 := D.drop2 HA.out
          clear HD HA HO HP HHl HIl HL0 D hk0 hk1 hk2 hk3
          subst hk4
          generalize hya : okE s o.x o.z true = ya at *
          go_wp2
          go_region_with (first
            | (go_at_call 16; refine h16.mono ?_; rintro _ w3 ⟨rfl, hE⟩; have g17 := hE.drop2 hap; rw [hya] at g17; obtain ⟨e0, e1, e2, e3⟩ := hE.cells)
            | (go_at_call 17; refine g17.mono ?_; rintro _ w4 ⟨rfl, hF⟩)
            | (go_at_call 17; refine h17.mono ?_; rintro _ w3 ⟨rfl, hE⟩; have g16 := hE.drop1 hoc; rw [hya] at g16; obtain ⟨e0, e1, e2, e3⟩ := hE.cells)
            | (go_at_call 16; refine g16.mono ?_; rintro _ w4 ⟨rfl, hF⟩))
          all_goals
            have HF : Hid (Dm _ _ _ _ _ _ _ _ _ w4) := hF
            clear hF
            go_wp2
            go_meet
            case rel => exact ⟨by simp, _, HF.out.more⟩
        by_cases hk5 : K = 5
        · have h19 := HD.out.trim1 hmo
          have hap := HA.out
          have htl : (trimE m s).2.length ≤ 3000000 := by have := trim_len (l := s) hmo; omega
          clear HD HA HO HP HHl HIl HL0 D hk0 hk1 hk2 hk3 hk4
          subst hk5
          go_wp2_with (first
            | (go_at_call 19; refine h19.mono ?_; clear h19; rintro _ w3 ⟨a1, q1, rfl, hr1, hE⟩; have h20 := hE.trim2 hap hmo hr1; have HE : Hid _ := hE; clear hE hr1 o0 o1 o2 o3)
            | (go_at_call 20; refine h20.mono ?_; clear h20; rintro _ w4 ⟨a2, q2, rfl, hr2, hF, hr1⟩; have h18 := chunks_c hr1 hr2 htl rfl; have HF : Hid _ := hF; clear hF hr1 hr2)
            | (go_at_call 18; refine h18.mono ?_; clear h18; rintro _ w5 ⟨rfl, hb5⟩; have HG : Hid _ := HF.out.on hb5; clear hb5 HF))
          go_meet
          case rel => exact ⟨rfl, _, HG.out.more⟩
        have HF : Hid _ := HD.out.more
        clear HD HA HO HP HHl HIl HL0 D
        go_wp2
        go_meet
        case rel => exact ⟨rfl, _, HF.out⟩
      case rest =>
      obtain ⟨rfl, H⟩ := hcut
      clear HD o0 o1 o2 o3 HA
      obtain ⟨s', hD⟩ := H.out
      have hlen' := hD.ls.cs.len
      have HW : Hid (Dw W c m r ob o s' (i + 1) none 0 [] wc) := ⟨hD, ARow.nil _ _, rfl⟩
      clear H hD
      go_wp2
      -- what is kept
      go_loopg [15, 16] s'.length (fun g vr vk wx => ∃ (gs : List (Int × Int)) (av : Option Addr) (cv : Nat), g = s'.length - gs.length ∧ gs.length ≤ s'.length ∧ vk = .int .i64 (gs.length : Int) ∧ vr = .slice av gs.length cv ∧ Hid (Dw W c m r ob o s' (i + 1) av cv gs wx))
      case atStart => exact ⟨[], none, 0, rfl, Nat.zero_le _, rfl, rfl, HW⟩
      case round =>
        obtain ⟨gs, av, cv, rfl, hk, rfl, rfl, HK⟩ := hrel
        obtain ⟨av1, cv1, R0⟩ := HK.out.dm.rc
        have c1 := R0.c1
        by_cases hkl : gs.length < s'.length
        · have hkl' : (gs.length : Int) < (s'.length : Int) := by omega
          rcases R0.row.form with ⟨_, he, _⟩ | ⟨g, rfl⟩
          · rw [he] at hkl; simp at hkl
          obtain ⟨e0, e1, _, _⟩ := R0.row.cell hkl
          have hcv : s'.length ≤ cv1 ∧ cv1 ≤ maxLen := by
            obtain ⟨cur, _, _, hcv, hmx, _⟩ := R0.row.blk
            exact ⟨hcv, hmx⟩
          have hkt := keysE_take hkl
          generalize s'[gs.length].x = X at *
          generalize s'[gs.length].z = Z at *
          have hx2 := heap_alloc_new wr (.cells #[.int .i64 X, .int .i64 Z] 31)
          have hb1 : Below wr.heap.size wr (wr.alloc (.cells #[.int .i64 X, .int .i64 Z] 31)) := (Below.refl _ _).alloc (Nat.le_refl _) _
          have hrow2 := HK.out.row.below hb1
          have hsz2 : W.heap.size ≤ (wr.alloc (.cells #[.int .i64 X, .int .i64 Z] 31)).heap.size := Nat.le_trans HK.out.dm.ls.below.size hb1.size
          have HF : Hid (∀ a' c' w3, ARow W.heap.size w3 a' c' (gs ++ [(X, Z)]) → (wr.alloc (.cells #[.int .i64 X, .int .i64 Z] 31)).grownBy w3 (Value.ownBlock (.slice av gs.length cv)) → Dw W c m r ob o s' (i + 1) a' c' (gs ++ [(X, Z)]) w3) := fun a' c' w3 h1 h2 => by
            have hkg : KeepT is31 0 (wr.alloc (.cells #[.int .i64 X, .int .i64 Z] 31)) w3 := hrow2.grown h2 (Nat.zero_le _)
            have hkW : KeepT is31 W.heap.size (wr.alloc (.cells #[.int .i64 X, .int .i64 Z] 31)) w3 := hrow2.grown h2 (Nat.le_refl _)
            have D1 := HK.out.dm.on hb1
            have heq := HK.out.eq
            exact ⟨D1.by31 hkg (D1.ls.below.trans (hkW.below D1.ls.below.size)), h1, by rw [List.length_append, List.length_singleton, hkt, ← heq]⟩
          clear HK R0 hkt HW HP HHl HIl HL0 HO hb1
          go_wp2_with (at_builtin; refine wpList_append_at rfl (.tmp 140) (.tmp 149) rfl W.heap.size av cv gs rfl hrow2 wr.heap.size 1 X Z rfl hx2 (by omega) hsz2 ?_; intro a' c' w3 hr hg; have HT := HF.out a' c' w3 hr hg; have HT' : Hid _ := HT; clear HF hr hg HT)
          go_roundg (s'.length - (gs.length + 1))
          case measure => omega
          case rel => exact ⟨_, a', c', by rw [List.length_append]; rfl, by rw [List.length_append]; exact hkl, by rw [List.length_append]; go_num, by rw [List.length_append]; rfl, HT'⟩
        · have hke : gs.length = s'.length := by omega
          have hD := HK.out
          have hgk : gs = keysE s' := by rw [hD.eq, hke, List.take_length]
          have hrow := hD.row
          have h21 := hD.dm.ls.keys
          have hkn : (keysE s').length = s'.length := by unfold keysE; rw [List.length_map]
          have hrow' : ARow W.heap.size wr av cv gs := hrow
          have HKE : Hid (keysE s' = gs ∧ gs.length = s'.length) := ⟨hgk.symm, hke⟩
          clear hgk hkn hke
          have hdm := hD.dm
          clear HK HW hD hrow R0 HP HHl HIl HL0 HO
          have HDm : Hid _ := hdm
          clear hdm
          go_wp2_with (first
            | (go_at_call 21; refine h21.mono ?_; clear h21; rintro _ w6 ⟨ka, kc, rfl, hkr, hb6, hls6⟩; have h18 := chunks_c hkr (hrow'.below hb6) (by rw [HKE.out.1]; omega) HKE.out.1; have HD6 : Hid _ := HDm.out.on hb6; clear hkr hb6 hls6 HDm)
            | (go_at_call 18; refine h18.mono ?_; clear h18; rintro _ w7 ⟨rfl, hb7⟩; have h22 := (HD6.out.on hb7).ls.pinN; have HD7 : Hid _ := HD6.out.on hb7; clear hb7 HD6)
            | (go_at_call 22; refine h22.mono ?_; clear h22; rintro _ w8 ⟨rfl, hb8, hls8⟩; obtain ⟨av8, cv8, R8⟩ := (HD7.out.on hb8).rc; have h23 := rpinned_c R8; have HD8 : Hid _ := HD7.out.on hb8; clear hb8 hls8 HD7 R8)
            | (go_at_call 23; refine h23.mono ?_; clear h23; rintro _ _ ⟨rfl, rfl⟩))
          go_roundg (n_l - (i + 1))
          case measure => omega
          case rel => exact ⟨i + 1, rfl, by go_num, by omega, by obtain ⟨av9, cv9, R9⟩ := HD8.out.rc; exact ⟨s', av9, cv9, HD8.out.ls, R9⟩⟩
    · obtain rfl : i = n_l := by omega
      have R := HP.out wr hls0.below
      clear HI hls0 hrc0 HP HL0
      go_wp2
      exact R
end Go.Proofs.Ytpfhgkgkbefigaa
