/-
  The landed build: the ground of a column.
-/
import Derived.Test.YtbdjgaagafnfaaaGreatPpart
import Derived.Test.YtbdjgaagafnfaaaGreatPsit
set_option maxRecDepth 20000
namespace Go.Proofs.YtbdjgaagafnfaaaGreat
open C Go.RowKit Go.Shelf

abbrev landA (X Z : Int) (a a' : Option Addr) (c c' : Nat) : Array Value := #[.int .i64 X, .int .i64 0, .int .i64 Z, .slice a 9 c, .slice a' 9 c']
def soilSay (cx cz : Int) (hs bs : List (List Int)) (x z : Int) : Ending :=
  if (near2 (x - cx * 16) && near2 (z - cz * 16)) = true then .returned (.tuple #[soilV (x - cx * 16) (z - cz * 16) (gAt cx cz hs x z) (gAt cx cz bs x z), .bool true]) else .returned (.tuple #[soilV 0 0 0 0, .bool false])
theorem set_four {W : World} {B : Nat} {T : TypeId} {a b c d u v x y : Value} (h : W.heap[B]? = some (.cells #[a, b, c, d] T (0, 0))) : ((((W.setCell ⟨B, 0, none⟩ u).setCell ⟨B, 1, none⟩ v).setCell ⟨B, 2, none⟩ x).setCell ⟨B, 3, none⟩ y).heap[B]? = some (.cells #[u, v, x, y] T (0, 0)) := by
  rw [heap_setCell_same _ B 3 _ T _ (heap_setCell_same _ B 2 _ T _ (heap_setCell_same _ B 1 _ T _ (heap_setCell_same W B 0 _ T _ h)))]
  rfl
theorem below_set4 {B b : Nat} {a W : World} {u v x y : Value} (h : Below B a W) (hb : B ≤ b) : Below B a ((((W.setCell ⟨b, 0, none⟩ u).setCell ⟨b, 1, none⟩ v).setCell ⟨b, 2, none⟩ x).setCell ⟨b, 3, none⟩ y) :=
  (G.below_set3 h hb).setCell (p := ⟨b, 3, none⟩) hb _
set_option maxRecDepth 100000 in
set_option maxHeartbeats 4000000 in
theorem soil_c (cx cz x z : Int) (a a' : Option Addr) (c c' : Nat) (hs bs : List (List Int)) (w : World) (hx : Far 1000000000000000 x) (hz : Far 1000000000000000 z) (hcx : Far 1073741825 cx) (hcz : Far 1073741825 cz) (hH : Rows2 w a hs) (hB : Rows2 w a' bs) (oH : okG 128 hs) (oB : okG 4 bs) :
    Calls Tryz.prog 76 #[.agg (landA (cx * 16) (cz * 16) a a' c c'), .int .i64 x, .int .i64 z] w fun e w' => e = soilSay cx cz hs bs x z ∧ Below w.heap.size w w' := by
  obtain ⟨Post, hPost⟩ : ∃ Post : Ending → World → Prop, Post = fun e w' => e = soilSay cx cz hs bs x z ∧ Below w.heap.size w w' := ⟨_, rfl⟩
  rw [← hPost]
  have HP : Hid (∀ e w', soilSay cx cz hs bs x z = e → Below w.heap.size w w' → Post e w') := fun e w' h1 h2 => by rw [hPost, h1]; exact ⟨rfl, h2⟩
  clear hPost
  have HHs : Hid (Rows2 w a hs ∧ okG 128 hs) := ⟨hH, oH⟩
  have HBs : Hid (Rows2 w a' bs ∧ okG 4 bs) := ⟨hB, oB⟩
  clear hH hB oH oB
  unfold Far at hx hz hcx hcz
  have Hno : Hid (near2 (x - cx * 16) = false ∨ near2 (z - cz * 16) = false → soilSay cx cz hs bs x z = .returned (.tuple #[soilV 0 0 0 0, .bool false])) := fun h => by
    unfold soilSay
    rcases h with h | h <;> rw [h] <;> simp
  have Hyes : Hid (near2 (x - cx * 16) = true → near2 (z - cz * 16) = true → soilSay cx cz hs bs x z = .returned (.tuple #[soilV (x - cx * 16) (z - cz * 16) (gAt cx cz hs x z) (gAt cx cz bs x z), .bool true])) := fun h1 h2 => by
    unfold soilSay
    rw [h1, h2]; rfl
  have Hg : Hid (∀ ls : List (List Int), gAt cx cz ls x z = (ls.getD (4 + 3 * ((z - cz * 16) / 16) + (x - cx * 16) / 16).toNat []).getD ((z - cz * 16) % 16 * 16 + (x - cx * 16) % 16).toNat 0) := fun ls => by
    unfold gAt
    rw [show (z / 16 - cz + 1) * 3 + (x / 16 - cx + 1) = 4 + 3 * ((z - cz * 16) / 16) + (x - cx * 16) / 16 by omega, show z % 16 * 16 + x % 16 = (z - cz * 16) % 16 * 16 + (x - cx * 16) % 16 by omega]
  have wx : IntKind.i64.wrap (x - cx * 16) = x - cx * 16 := by rw [IntKind.wrap_i64]; omega
  have wz : IntKind.i64.wrap (z - cz * 16) = z - cz * 16 := by rw [IntKind.wrap_i64]; omega
  obtain ⟨px, hpx⟩ : ∃ p, x - cx * 16 = p := ⟨_, rfl⟩
  obtain ⟨pz, hpz⟩ : ∃ p, z - cz * 16 = p := ⟨_, rfl⟩
  rw [hpx] at Hno Hyes Hg wx
  rw [hpz] at Hno Hyes Hg wz
  have wx' : IntKind.i64.wrap (x - cx * 16) = px := by rw [hpx]; exact wx
  have wz' : IntKind.i64.wrap (z - cz * 16) = pz := by rw [hpz]; exact wz
  clear wx wz hpx hpz hx hz hcx hcz
  generalize cx * 16 = X at *
  generalize cz * 16 = Z at *
  have hn1 := fun w => near_c px w
  have hn2 := fun w => near_c pz w
  obtain ⟨W, hW⟩ : ∃ W, W = ((w.alloc (.cells (landA X Z a a' c c') 67)).alloc (.cells #[.int .i64 0, .int .i64 0, .int .i64 0, .int .i64 0] 121)).alloc (.cells #[.int .i64 px, .int .i64 0, .int .i64 pz] 64) := ⟨_, rfl⟩
  obtain ⟨hsz, hbel, k0, k1, k2⟩ := chain3 w _ _ _ hW
  have HW : Hid (W = ((w.alloc (.cells (landA X Z a a' c c') 67)).alloc (.cells #[.int .i64 0, .int .i64 0, .int .i64 0, .int .i64 0] 121)).alloc (.cells #[.int .i64 px, .int .i64 0, .int .i64 pz] 64)) := hW
  have HK : Hid (Below w.heap.size w W ∧ W.heap[w.heap.size]? = some (.cells (landA X Z a a' c c') 67) ∧ W.heap[w.heap.size + 1]? = some (.cells #[.int .i64 0, .int .i64 0, .int .i64 0, .int .i64 0] 121) ∧ W.heap[w.heap.size + 1 + 1]? = some (.cells #[.int .i64 px, .int .i64 0, .int .i64 pz] 64)) := ⟨hbel, k0, k1, k2⟩
  clear hW hsz hbel k0 k1 k2
  go_enter Tryz.func76, Tryz.ntmps76
  go_wp2_with fail
  refine (hn1 _).mono ?_
  clear hn1
  rintro _ w1 ⟨rfl, rfl⟩
  by_cases n1 : near2 px = true
  case neg =>
    have n1' : near2 px = false := by simpa using n1
    have hE := Hno.out (.inl n1')
    rw [n1']
    have R := HP.out _ _ hE HK.out.1
    have hz := HK.out.2.2.1
    clear HP HHs HBs Hno Hyes Hg HK hn2 hE
    go_wp2
    rw [← HW.out]
    exact bodyPost_ret (results_row_tmp (p := 6) (u := 7) (ty := 121) rfl _ _ (w.heap.size + 1) 121 _ (0, 0) _ rfl hz Tryz.underlying121 rfl (by kernel_rfl)) rfl R
  rw [n1]
  go_wp2_with fail
  refine (hn2 _).mono ?_
  clear hn2
  rintro _ w1 ⟨rfl, rfl⟩
  by_cases n2 : near2 pz = true
  case neg =>
    have n2' : near2 pz = false := by simpa using n2
    have hE := Hno.out (.inr n2')
    rw [n2']
    have R := HP.out _ _ hE HK.out.1
    have hz := HK.out.2.2.1
    clear HP HHs HBs Hno Hyes Hg HK hE
    go_wp2
    rw [← HW.out]
    exact bodyPost_ret (results_row_tmp (p := 6) (u := 7) (ty := 121) rfl _ _ (w.heap.size + 1) 121 _ (0, 0) _ rfl hz Tryz.underlying121 rfl (by kernel_rfl)) rfl R
  rw [n2]
  have hE := Hyes.out n1 n2
  have bx : -2 ≤ px ∧ px < 18 := of_decide_eq_true n1
  have bz : -2 ≤ pz ∧ pz < 18 := of_decide_eq_true n2
  clear Hno Hyes n1 n2
  have gi : G.indexN px 0 pz = pz % 16 * 16 + px % 16 := by unfold G.indexN; rw [if_pos (by omega)]; omega
  have h84 := fun w => G.chunk_c px 0 pz (by omega) (by omega) (by omega) (by omega) w
  have h46 := fun w => G.index_c px 0 pz (by omega) (by omega) (by omega) (by omega) w
  rw [gi] at h46
  clear gi
  have q1 : -1 ≤ px / 16 ∧ px / 16 ≤ 1 := by omega
  have q2 : -1 ≤ pz / 16 ∧ pz / 16 ≤ 1 := by omega
  have q3 : 0 ≤ px % 16 ∧ px % 16 < 16 := by omega
  have q4 : 0 ≤ pz % 16 ∧ pz % 16 < 16 := by omega
  generalize px / 16 = CX at *
  generalize pz / 16 = CZ at *
  generalize px % 16 = RX at *
  generalize pz % 16 = RZ at *
  obtain ⟨n, hn⟩ := Int.eq_ofNat_of_zero_le (show 0 ≤ 4 + 3 * CZ + CX by omega)
  obtain ⟨i, hi⟩ := Int.eq_ofNat_of_zero_le (show 0 ≤ RZ * 16 + RX by omega)
  have hn9 : n < 9 := by omega
  have hi9 : i < 256 := by omega
  rw [hn, hi] at Hg
  rw [hi] at h46
  have u1 : IntKind.i64.wrap (3 * CZ) = 3 * CZ := by rw [IntKind.wrap_i64]; omega
  have u2 : IntKind.i64.wrap (4 + 3 * CZ) = 4 + 3 * CZ := by rw [IntKind.wrap_i64]; omega
  have u3 : IntKind.i64.wrap (4 + 3 * CZ + CX) = (n : Int) := by rw [hn, IntKind.wrap_i64]; omega
  have Hg1 : Hid (gAt cx cz hs x z = (hs.getD n []).getD i 0) := by have := Hg.out hs; rwa [Int.toNat_natCast, Int.toNat_natCast] at this
  have Hg2 : Hid (gAt cx cz bs x z = (bs.getD n []).getD i 0) := by have := Hg.out bs; rwa [Int.toNat_natCast, Int.toNat_natCast] at this
  clear Hg hn hi q1 q2 q3 q4
  go_wp2_with fail
  rw [← HW.out]
  clear HW
  have c0 : W.cell? ⟨w.heap.size + 1 + 1, 0, none⟩ = some (.int .i64 px) := (cell_of_row W _ 0 _ 64 (0, 0) HK.out.2.2.2).trans rfl
  have c1 : W.cell? ⟨w.heap.size + 1 + 1, 1, none⟩ = some (.int .i64 0) := (cell_of_row W _ 1 _ 64 (0, 0) HK.out.2.2.2).trans rfl
  have c2 : W.cell? ⟨w.heap.size + 1 + 1, 2, none⟩ = some (.int .i64 pz) := (cell_of_row W _ 2 _ 64 (0, 0) HK.out.2.2.2).trans rfl

  refine wp_mono (Q := onlyN fun a1 w' => ∃ gc, W.heap.size ≤ gc ∧ Below W.heap.size W w' ∧ w'.heap[gc]? = some (.cells #[.int .i64 CX, .int .i64 CZ] 24 (0, 0)) ∧ ∃ u34 u35 u36 u37, a1 = { tmps := List.toArray ((.agg (landA X Z a a' c c')) :: (.int .i64 x) :: (.int .i64 z) :: (Value.pointer (some { block := w.heap.size, off := 0 })) :: (undef) :: (undef) :: (Value.pointer (some { block := w.heap.size + 1, off := 0 })) :: (.bool false) :: (Value.pointer (some { block := w.heap.size + 1 + 1, off := 0 })) :: (Value.pointer (some { block := gc, off := 0 })) :: (.int .i64 (i : Int)) :: (undef) :: (.int .i64 x) :: (Value.pointer (some { block := w.heap.size, off := 0 })) :: (Value.pointer (some { block := w.heap.size, off := 0 })) :: (.int .i64 X) :: (.int .i64 px) :: (.int .i64 z) :: (Value.pointer (some { block := w.heap.size, off := 0 })) :: (Value.pointer (some { block := w.heap.size, off := 2 })) :: (.int .i64 Z) :: (.int .i64 pz) :: (posV px 0 pz) :: (Value.pointer (some { block := w.heap.size + 1 + 1, off := 0 })) :: (.int .i64 px) :: (.bool true) :: (.bool false) :: (.bool false) :: (Value.pointer (some { block := w.heap.size + 1 + 1, off := 2 })) :: (.int .i64 pz) :: (.bool true) :: (.bool false) :: (.bool false) :: (undef) :: (u34) :: (u35) :: (u36) :: (u37) :: (undef) :: (undef) :: (undef) :: (undef) :: (undef) :: (undef) :: (undef) :: (undef) :: (undef) :: (undef) :: (undef) :: (undef) :: (undef) :: (undef) :: (undef) :: (undef) :: (undef) :: (undef) :: (undef) :: (undef) :: (undef) :: (undef) :: (undef) :: (undef) :: (undef) :: (undef) :: (undef) :: (undef) :: []), defers := [] }) ?_ ?_
  · clear HP HHs HBs HK Hg1 Hg2 hE u1 u2 u3
    refine region_L (fun w' => Below W.heap.size W w') 30 (by kernel_rfl) ?_
    have h_v0 : (fun w' => Below W.heap.size W w') W.drew := (Below.refl _ W).drew
    generalize W.drew = v0 at *
    have hne : Nonempty (Sub (fun w' => Below W.heap.size W w')) := ⟨⟨_, h_v0⟩⟩
    have k0 : ∀ s : Sub (fun w' => Below W.heap.size W w'), s.w.cell? ⟨w.heap.size + 1 + 1, 0, none⟩ = some (.int .i64 px) := fun s => cell_below c0 s.ok
    have k1 : ∀ s : Sub (fun w' => Below W.heap.size W w'), s.w.cell? ⟨w.heap.size + 1 + 1, 1, none⟩ = some (.int .i64 0) := fun s => cell_below c1 s.ok
    have k2 : ∀ s : Sub (fun w' => Below W.heap.size W w'), s.w.cell? ⟨w.heap.size + 1 + 1, 2, none⟩ = some (.int .i64 pz) := fun s => cell_below c2 s.ok
    clear c0 c1 c2
    refine take_L (i := 0) rfl (by kernel_rfl) (by kernel_rfl) (by kernel_rfl) (by kernel_rfl) (fun _ _ _ _ h => h) (by exact h_v0) (fun K hK => ?_)
    go_simp
    refine hK _ ?_
    clear hK K
    refine take_L (i := 2) rfl (by kernel_rfl) (by kernel_rfl) (by kernel_rfl) (by kernel_rfl) (fun _ _ _ _ h => h) (by exact h_v0) (fun K hK => ?_)
    go_simp
    refine hK _ ?_
    clear hK K
    refine two_L (i := 1) (j := 4) (by kernel_rfl) rfl rfl (fun K hK => ?_) (fun K hK => ?_)
    · go_simp
      refine (h84 v0).mono ?_
      rintro _ v1 ⟨rfl, hb⟩
      have h_v1 : (fun w' => Below W.heap.size W w') v1 := h_v0.trans (hb.mono h_v0.size)
      refine hK.out _ _ (fun _ => h_v1) ?_
      clear hK K hb h_v0
      refine two_L (i := 3) (j := 4) (by kernel_rfl) rfl rfl (fun K hK => ?_) (fun K hK => ?_)
      · go_simp
        refine (h46 v1).mono ?_
        rintro _ v2 ⟨rfl, hb⟩
        have h_v2 : (fun w' => Below W.heap.size W w') v2 := h_v1.trans (hb.mono h_v1.size)
        refine hK.out _ _ (fun _ => h_v2) ?_
        clear hK K hb h_v1
        refine one_L (i := 4) (by kernel_rfl) rfl (fun K hK => ?_)
        go_simp
        have h_v3 : (fun w' => Below W.heap.size W w') (v2.alloc (.cells #[.int .i64 0, .int .i64 0] 24)) := h_v2.alloc h_v2.size _
        have Hz_v3_4 : Hid ((v2.alloc (.cells #[.int .i64 0, .int .i64 0] 24)).heap[v2.heap.size]? = some (.cells #[.int .i64 0, .int .i64 0] 24 (0, 0))) := heap_alloc_new v2 _
        have Hl_v3_4 : Hid (W.heap.size ≤ v2.heap.size) := h_v2.size
        refine hK.out _ _ (fun _ => h_v3) ?_
        clear hK K
        generalize v2.alloc (.cells #[.int .i64 0, .int .i64 0] 24) = v3 at *
        clear h_v2
        generalize v2.heap.size = g3 at *
        refine one_L (i := 5) (by kernel_rfl) rfl (fun K hK => ?_)
        have s1 : v3.cell? ⟨g3, 1, none⟩ = some (.int .i64 0) := (cell_of_row v3 _ 1 _ 24 (0, 0) Hz_v3_4.out).trans rfl
        have f1 : v3.frozen? ⟨g3, 1, none⟩ = false := frozen_of_row v3 _ 1 _ 24 Hz_v3_4.out
        have s0 : v3.cell? ⟨g3, 0, none⟩ = some (.int .i64 0) := (cell_of_row v3 _ 0 _ 24 (0, 0) Hz_v3_4.out).trans rfl
        have f0 : v3.frozen? ⟨g3, 0, none⟩ = false := frozen_of_row v3 _ 0 _ 24 Hz_v3_4.out
        go_simp
        have h_v4 : (fun w' => Below W.heap.size W w') ((v3.setCell ⟨g3, 0, none⟩ (.int .i64 CX)).setCell ⟨g3, 1, none⟩ (.int .i64 CZ)) := G.below_set2 h_v3 Hl_v3_4.out
        have Hz_v4_4 : Hid (((v3.setCell ⟨g3, 0, none⟩ (.int .i64 CX)).setCell ⟨g3, 1, none⟩ (.int .i64 CZ)).heap[g3]? = some (.cells #[.int .i64 CX, .int .i64 CZ] 24 (0, 0))) := G.set_two Hz_v3_4.out
        refine hK.out _ _ (fun _ => h_v4) ?_
        clear hK K s0 s1 f0 f1
        generalize (v3.setCell ⟨g3, 0, none⟩ (.int .i64 CX)).setCell ⟨g3, 1, none⟩ (.int .i64 CZ) = v4 at *
        refine take_L (i := 6) rfl (by kernel_rfl) (by kernel_rfl) (by kernel_rfl) (by kernel_rfl) (fun _ _ _ _ h => h) (by exact h_v4) (fun K hK => ?_)
        go_simp
        refine hK _ ?_
        clear hK K
        refine done_L (by kernel_rfl) ?_ _
        exact ⟨_, Hl_v3_4.out, h_v4, Hz_v4_4.out, ⟨_, _, _, _, rfl⟩⟩
      · go_simp
        have h_v5 : (fun w' => Below W.heap.size W w') (v1.alloc (.cells #[.int .i64 0, .int .i64 0] 24)) := h_v1.alloc h_v1.size _
        have Hz_v5_4 : Hid ((v1.alloc (.cells #[.int .i64 0, .int .i64 0] 24)).heap[v1.heap.size]? = some (.cells #[.int .i64 0, .int .i64 0] 24 (0, 0))) := heap_alloc_new v1 _
        have Hl_v5_4 : Hid (W.heap.size ≤ v1.heap.size) := h_v1.size
        refine hK.out _ _ (fun _ => h_v5) ?_
        clear hK K
        generalize v1.alloc (.cells #[.int .i64 0, .int .i64 0] 24) = v5 at *
        clear h_v1
        generalize v1.heap.size = g5 at *
        refine one_L (i := 3) (by kernel_rfl) rfl (fun K hK => ?_)
        go_simp
        refine (h46 v5).mono ?_
        rintro _ v6 ⟨rfl, hb⟩
        have h_v6 : (fun w' => Below W.heap.size W w') v6 := h_v5.trans (hb.mono h_v5.size)
        have Hz_v6_4 : Hid (v6.heap[g5]? = some (.cells #[.int .i64 0, .int .i64 0] 24 (0, 0))) := (hb.block _ (Array.getElem?_eq_some_iff.1 Hz_v5_4.out).1).trans Hz_v5_4.out
        refine hK.out _ _ (fun _ => h_v6) ?_
        clear hK K hb h_v5 Hz_v5_4
        refine one_L (i := 5) (by kernel_rfl) rfl (fun K hK => ?_)
        have s1 : v6.cell? ⟨g5, 1, none⟩ = some (.int .i64 0) := (cell_of_row v6 _ 1 _ 24 (0, 0) Hz_v6_4.out).trans rfl
        have f1 : v6.frozen? ⟨g5, 1, none⟩ = false := frozen_of_row v6 _ 1 _ 24 Hz_v6_4.out
        have s0 : v6.cell? ⟨g5, 0, none⟩ = some (.int .i64 0) := (cell_of_row v6 _ 0 _ 24 (0, 0) Hz_v6_4.out).trans rfl
        have f0 : v6.frozen? ⟨g5, 0, none⟩ = false := frozen_of_row v6 _ 0 _ 24 Hz_v6_4.out
        go_simp
        have h_v7 : (fun w' => Below W.heap.size W w') ((v6.setCell ⟨g5, 0, none⟩ (.int .i64 CX)).setCell ⟨g5, 1, none⟩ (.int .i64 CZ)) := G.below_set2 h_v6 Hl_v5_4.out
        have Hz_v7_4 : Hid (((v6.setCell ⟨g5, 0, none⟩ (.int .i64 CX)).setCell ⟨g5, 1, none⟩ (.int .i64 CZ)).heap[g5]? = some (.cells #[.int .i64 CX, .int .i64 CZ] 24 (0, 0))) := G.set_two Hz_v6_4.out
        refine hK.out _ _ (fun _ => h_v7) ?_
        clear hK K s0 s1 f0 f1
        generalize (v6.setCell ⟨g5, 0, none⟩ (.int .i64 CX)).setCell ⟨g5, 1, none⟩ (.int .i64 CZ) = v7 at *
        refine take_L (i := 6) rfl (by kernel_rfl) (by kernel_rfl) (by kernel_rfl) (by kernel_rfl) (fun _ _ _ _ h => h) (by exact h_v7) (fun K hK => ?_)
        go_simp
        refine hK _ ?_
        clear hK K
        refine done_L (by kernel_rfl) ?_ _
        exact ⟨_, Hl_v5_4.out, h_v7, Hz_v7_4.out, ⟨_, _, _, _, rfl⟩⟩
    · go_simp
      have h_v8 : (fun w' => Below W.heap.size W w') (v0.alloc (.cells #[.int .i64 0, .int .i64 0] 24)) := h_v0.alloc h_v0.size _
      have Hz_v8_4 : Hid ((v0.alloc (.cells #[.int .i64 0, .int .i64 0] 24)).heap[v0.heap.size]? = some (.cells #[.int .i64 0, .int .i64 0] 24 (0, 0))) := heap_alloc_new v0 _
      have Hl_v8_4 : Hid (W.heap.size ≤ v0.heap.size) := h_v0.size
      refine hK.out _ _ (fun _ => h_v8) ?_
      clear hK K
      generalize v0.alloc (.cells #[.int .i64 0, .int .i64 0] 24) = v8 at *
      clear h_v0
      generalize v0.heap.size = g8 at *
      refine one_L (i := 1) (by kernel_rfl) rfl (fun K hK => ?_)
      go_simp
      refine (h84 v8).mono ?_
      rintro _ v9 ⟨rfl, hb⟩
      have h_v9 : (fun w' => Below W.heap.size W w') v9 := h_v8.trans (hb.mono h_v8.size)
      have Hz_v9_4 : Hid (v9.heap[g8]? = some (.cells #[.int .i64 0, .int .i64 0] 24 (0, 0))) := (hb.block _ (Array.getElem?_eq_some_iff.1 Hz_v8_4.out).1).trans Hz_v8_4.out
      refine hK.out _ _ (fun _ => h_v9) ?_
      clear hK K hb h_v8 Hz_v8_4
      refine one_L (i := 3) (by kernel_rfl) rfl (fun K hK => ?_)
      go_simp
      refine (h46 v9).mono ?_
      rintro _ v10 ⟨rfl, hb⟩
      have h_v10 : (fun w' => Below W.heap.size W w') v10 := h_v9.trans (hb.mono h_v9.size)
      have Hz_v10_4 : Hid (v10.heap[g8]? = some (.cells #[.int .i64 0, .int .i64 0] 24 (0, 0))) := (hb.block _ (Array.getElem?_eq_some_iff.1 Hz_v9_4.out).1).trans Hz_v9_4.out
      refine hK.out _ _ (fun _ => h_v10) ?_
      clear hK K hb h_v9 Hz_v9_4
      refine one_L (i := 5) (by kernel_rfl) rfl (fun K hK => ?_)
      have s1 : v10.cell? ⟨g8, 1, none⟩ = some (.int .i64 0) := (cell_of_row v10 _ 1 _ 24 (0, 0) Hz_v10_4.out).trans rfl
      have f1 : v10.frozen? ⟨g8, 1, none⟩ = false := frozen_of_row v10 _ 1 _ 24 Hz_v10_4.out
      have s0 : v10.cell? ⟨g8, 0, none⟩ = some (.int .i64 0) := (cell_of_row v10 _ 0 _ 24 (0, 0) Hz_v10_4.out).trans rfl
      have f0 : v10.frozen? ⟨g8, 0, none⟩ = false := frozen_of_row v10 _ 0 _ 24 Hz_v10_4.out
      go_simp
      have h_v11 : (fun w' => Below W.heap.size W w') ((v10.setCell ⟨g8, 0, none⟩ (.int .i64 CX)).setCell ⟨g8, 1, none⟩ (.int .i64 CZ)) := G.below_set2 h_v10 Hl_v8_4.out
      have Hz_v11_4 : Hid (((v10.setCell ⟨g8, 0, none⟩ (.int .i64 CX)).setCell ⟨g8, 1, none⟩ (.int .i64 CZ)).heap[g8]? = some (.cells #[.int .i64 CX, .int .i64 CZ] 24 (0, 0))) := G.set_two Hz_v10_4.out
      refine hK.out _ _ (fun _ => h_v11) ?_
      clear hK K s0 s1 f0 f1
      generalize (v10.setCell ⟨g8, 0, none⟩ (.int .i64 CX)).setCell ⟨g8, 1, none⟩ (.int .i64 CZ) = v11 at *
      refine take_L (i := 6) rfl (by kernel_rfl) (by kernel_rfl) (by kernel_rfl) (by kernel_rfl) (fun _ _ _ _ h => h) (by exact h_v11) (fun K hK => ?_)
      go_simp
      refine hK _ ?_
      clear hK K
      refine done_L (by kernel_rfl) ?_ _
      exact ⟨_, Hl_v8_4.out, h_v11, Hz_v11_4.out, ⟨_, _, _, _, rfl⟩⟩
  rintro e a1 W1 h
  cases e with
  | normal =>
    obtain ⟨gc, hgc, hb1, hz1, u34, u35, u36, u37, rfl⟩ := h
    have HB1 : Hid (Below w.heap.size w W1) := HK.out.1.trans (hb1.mono HK.out.1.size)
    have l0 : W1.heap[w.heap.size]? = some (.cells (landA X Z a a' c c') 67) := (hb1.block _ (Array.getElem?_eq_some_iff.1 HK.out.2.1).1).trans HK.out.2.1
    have l1 : W1.heap[w.heap.size + 1]? = some (.cells #[.int .i64 0, .int .i64 0, .int .i64 0, .int .i64 0] 121) := (hb1.block _ (Array.getElem?_eq_some_iff.1 HK.out.2.2.1).1).trans HK.out.2.2.1
    have l2 : W1.heap[w.heap.size + 1 + 1]? = some (.cells #[.int .i64 px, .int .i64 0, .int .i64 pz] 64) := (hb1.block _ (Array.getElem?_eq_some_iff.1 HK.out.2.2.2).1).trans HK.out.2.2.2
    have t0 : W1.cell? ⟨gc, 0, none⟩ = some (.int .i64 CX) := (cell_of_row W1 _ 0 _ 24 (0, 0) hz1).trans rfl
    have t1 : W1.cell? ⟨gc, 1, none⟩ = some (.int .i64 CZ) := (cell_of_row W1 _ 1 _ 24 (0, 0) hz1).trans rfl
    have Hl1 : Hid (W1.heap[w.heap.size + 1]? = some (.cells #[.int .i64 0, .int .i64 0, .int .i64 0, .int .i64 0] 121)) := l1
    have Hl0 : Hid (W1.heap[w.heap.size]? = some (.cells (landA X Z a a' c c') 67) ∧ W1.heap[w.heap.size + 1 + 1]? = some (.cells #[.int .i64 px, .int .i64 0, .int .i64 pz] 64)) := ⟨l0, l2⟩
    obtain ⟨b1, o1, ai1, ci1, rfl, hc1, hI1⟩ := (HHs.out.1.on HB1.out).row n (by rw [HHs.out.2.1]; exact hn9)
    obtain ⟨b2, o2, ai2, ci2, rfl, hc2, hI2⟩ := (HBs.out.1.on HB1.out).row n (by rw [HBs.out.2.1]; exact hn9)
    rw [(HHs.out.2.2 _ hn9).1] at hc1 hI1
    rw [(HBs.out.2.2 _ hn9).1] at hc2 hI2
    obtain ⟨g1, q1, rfl⟩ := hI1.some (by omega)
    obtain ⟨g2, q2, rfl⟩ := hI2.some (by omega)
    have hd1 := hI1.at _ hi9
    have hd2 := hI2.at _ hi9
    rw [← Hg1.out] at hd1
    rw [← Hg2.out] at hd2
    generalize gAt cx cz hs x z = hv at *
    generalize gAt cx cz bs x z = bv at *
    have Hd : Hid (W1.cell? ⟨b1, o1 + n, none⟩ = some (.slice (some ⟨g1, q1, none⟩) 256 ci1) ∧ W1.cell? ⟨b2, o2 + n, none⟩ = some (.slice (some ⟨g2, q2, none⟩) 256 ci2) ∧ W1.cell? ⟨g1, q1 + i, none⟩ = some (.int .i64 hv) ∧ W1.cell? ⟨g2, q2 + i, none⟩ = some (.int .i64 bv)) := ⟨hc1, hc2, hd1, hd2⟩
    clear HK HHs HBs Hg1 Hg2 hb1 hz1 hgc hI1 hI2 c0 c1 c2 h84 h46 l0 l1 l2 hc1 hc2 hd1 hd2
    go_wp2_with fail
    clear t0 t1 u1 u2 u3
    refine G.wp_region_tail 21 (by kernel_rfl) (by kernel_rfl) ?_
    simp only [List.take_succ_cons, List.take_zero, List.drop_succ_cons, List.drop_zero]
    have HB2 : Hid (Below w.heap.size w (W1.drewN 1)) := G.below_drewN HB1.out 1
    have HL2 : Hid ((W1.drewN 1).heap[w.heap.size + 1]? = some (.cells #[.int .i64 0, .int .i64 0, .int .i64 0, .int .i64 0] 121)) := Hl1.out
    have x0 : (W1.drewN 1).cell? ⟨w.heap.size + 1 + 1, 0, none⟩ = some (.int .i64 px) := (cell_of_row W1 _ 0 _ 64 (0, 0) Hl0.out.2).trans rfl
    have x2 : (W1.drewN 1).cell? ⟨w.heap.size + 1 + 1, 2, none⟩ = some (.int .i64 pz) := (cell_of_row W1 _ 2 _ 64 (0, 0) Hl0.out.2).trans rfl
    have y3 : (W1.drewN 1).cell? ⟨w.heap.size, 3, none⟩ = some (.slice (some ⟨b1, o1, none⟩) 9 c) := (cell_of_row W1 _ 3 _ 67 (0, 0) Hl0.out.1).trans rfl
    have y4 : (W1.drewN 1).cell? ⟨w.heap.size, 4, none⟩ = some (.slice (some ⟨b2, o2, none⟩) 9 c') := (cell_of_row W1 _ 4 _ 67 (0, 0) Hl0.out.1).trans rfl
    have z1 : (W1.drewN 1).cell? ⟨b1, o1 + n, none⟩ = some (.slice (some ⟨g1, q1, none⟩) 256 ci1) := Hd.out.1
    have z2 : (W1.drewN 1).cell? ⟨b2, o2 + n, none⟩ = some (.slice (some ⟨g2, q2, none⟩) 256 ci2) := Hd.out.2.1
    have z3 : (W1.drewN 1).cell? ⟨g1, q1 + i, none⟩ = some (.int .i64 hv) := Hd.out.2.2.1
    have z4 : (W1.drewN 1).cell? ⟨g2, q2 + i, none⟩ = some (.int .i64 bv) := Hd.out.2.2.2
    clear Hl1 Hl0 Hd HB1
    generalize W1.drewN 1 = V at *
    have hn9' : (n : Int) < 9 := by omega
    have hi9' : (i : Int) < 256 := by omega
    repeat still_step
    refine wpStill_nil ?_
    have s0 : V.cell? ⟨w.heap.size + 1, 0, none⟩ = some (.int .i64 0) := (cell_of_row V _ 0 _ 121 (0, 0) HL2.out).trans rfl
    have f0 : V.frozen? ⟨w.heap.size + 1, 0, none⟩ = false := frozen_of_row V _ 0 _ 121 HL2.out
    have s1 : V.cell? ⟨w.heap.size + 1, 1, none⟩ = some (.int .i64 0) := (cell_of_row V _ 1 _ 121 (0, 0) HL2.out).trans rfl
    have f1 : V.frozen? ⟨w.heap.size + 1, 1, none⟩ = false := frozen_of_row V _ 1 _ 121 HL2.out
    have s2 : V.cell? ⟨w.heap.size + 1, 2, none⟩ = some (.int .i64 0) := (cell_of_row V _ 2 _ 121 (0, 0) HL2.out).trans rfl
    have f2 : V.frozen? ⟨w.heap.size + 1, 2, none⟩ = false := frozen_of_row V _ 2 _ 121 HL2.out
    have s3 : V.cell? ⟨w.heap.size + 1, 3, none⟩ = some (.int .i64 0) := (cell_of_row V _ 3 _ 121 (0, 0) HL2.out).trans rfl
    have f3 : V.frozen? ⟨w.heap.size + 1, 3, none⟩ = false := frozen_of_row V _ 3 _ 121 HL2.out
    have R := HP.out _ _ hE (below_set4 HB2.out (Nat.le_succ w.heap.size) (u := .int .i64 px) (v := .int .i64 pz) (x := .int .i64 hv) (y := .int .i64 bv))
    have hz := set_four (u := .int .i64 px) (v := .int .i64 pz) (x := .int .i64 hv) (y := .int .i64 bv) HL2.out
    have HR : Hid _ := R
    have Hz : Hid _ := hz
    clear R hz HP hE HB2 HL2 x0 x2 y3 y4 z1 z2 z3 z4
    go_wp2
    exact bodyPost_ret (results_row_tmp (p := 6) (u := 7) (ty := 121) rfl _ _ (w.heap.size + 1) 121 _ (0, 0) _ rfl Hz.out Tryz.underlying121 rfl (by kernel_rfl)) rfl HR.out
  | ret => exact h.elim
  | exit id => exact h.elim
  | goto t => exact h.elim
  | panic ch => exact h.elim
  | outgrown => exact h.elim
end Go.Proofs.YtbdjgaagafnfaaaGreat