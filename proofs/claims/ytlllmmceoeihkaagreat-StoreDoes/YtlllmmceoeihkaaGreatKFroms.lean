/-
  Get, Bytes, Copy of the program.
  Bytes, Counts, From, Full and Copy of the program.
  From of the program, and what the statements make of it.
-/
import Derived.Test.YtlllmmceoeihkaaGreatDv
import Derived.Laws.CopyRow
import Derived.Deep.WholeRow
namespace Go.Proofs.YtlllmmceoeihkaaGreat.K
open Go.RowKit
theorem size5:(Tryz.prog.info? 5).map (·.size)=some 1:=by kernel_rfl
theorem copy_row {w:World} {g h:Nat} {t t':TypeId} {cs zs:List Int} (hS:Blk w g t cs) (hD:Blk w h t' zs) (lc:cs.length=32768) (lz:zs.length=32768) :
  (Builtin.copy_ #[61,61] 3 #[.slice (some ⟨h,0,none⟩) 32768 32768,.slice (some ⟨g,0,none⟩) 32768 32768]).run Tryz.prog w = .ok (.int .i64 32768) (w.setRow h (vals cs)):=by
 have:=run_copy_row (P:=Tryz.prog) w 61 61 3 5 h 0 32768 32768 ⟨g,0,none⟩ 32768 32768 (vals zs) t' (cs.map (Value.int .u8)) Tryz.underlying61 size5 hD (by rw [List.length_map,lc];rfl)
  (fun j v hv=>by
   rw [Addr.add_mid,Nat.zero_add,cell_of_row w g j _ t (0,0) hS]
   simpa [vals] using hv) (by rw [List.length_map,vals_size];omega) (by intro v hv;obtain ⟨x,_,rfl⟩:=List.mem_map.1 hv;rfl)
 rw [this,List.length_map,lc]
 have e:((vals zs).toList.take 0++cs.map (Value.int .u8)++(vals zs).toList.drop (0+32768)).toArray=vals cs:=by
  rw [List.drop_eq_nil_of_le (by rw [Array.length_toList,vals_size];omega),List.take_zero,List.nil_append,List.append_nil]
  rfl
 rw [e]
 rfl
theorem Blk.copied {w:World} {h:Nat} {t:TypeId} {cs zs:List Int} (hD:Blk w h t zs):Blk (w.setRow h (vals cs)) h t cs:=setRow_heap w h _ _ t _ hD
theorem setRow_only (w:World) (h:Nat) (a:Array Value):Only h w (w.setRow h a) :=
 ⟨rfl,rfl,rfl,by simp [World.setRow],fun k hk=>by simp [World.setRow,Array.getElem?_modify,Ne.symm hk]⟩
end Go.Proofs.YtlllmmceoeihkaaGreat.K
namespace Go.Proofs.YtlllmmceoeihkaaGreat.K
open Go.RowKit
set_option maxRecDepth 100000 in
theorem bytes_c (g:Nat) (cs:List Int) (w:World) (hB:Blk w g 122 cs) (hl:cs.length=32768) :
  Calls Tryz.prog 29 #[.pointer (some ⟨g,0,none⟩)] w fun e w'=>e = .returned (.slice (some ⟨w.heap.size,0,none⟩) 32768 32768)∧Blk w' w.heap.size 5 cs∧Below w.heap.size w w':=by
 have hmk:=make_bytes
 obtain ⟨Z,hZe⟩:∃ Z,Z=List.replicate 32768 (0:Int):=⟨_,rfl⟩
 have hZ:Z.length=32768:=by rw [hZe,List.length_replicate]
 rw [<- hZe] at hmk
 clear hZe
 have hS:Blk (w.alloc (.cells (vals Z) 5)) g 122 cs:=hB.below ((Below.refl _ _).alloc (Nat.le_refl _) _) hB.lt
 have hD:=Blk.new w 5 Z
 have hcp:=copy_row hS hD hl hZ
 have R1:Blk ((w.alloc (.cells (vals Z) 5)).setRow w.heap.size (vals cs)) w.heap.size 5 cs:=hD.copied
 have R2:Below w.heap.size w ((w.alloc (.cells (vals Z) 5)).setRow w.heap.size (vals cs)):=((Below.refl _ w).alloc (Nat.le_refl _) _).trans ((setRow_only _ _ _).below (Nat.le_refl _))
 clear hS hD
 go_enter Tryz.func29,Tryz.ntmps29
 go_wp2_with fail
 refine (all_c g _).mono ?_
 rintro _ _ ⟨rfl,rfl⟩
 go_wp2_with fail
 refine (all_c g _).mono ?_
 rintro _ _ ⟨rfl,rfl⟩
 go_wp2
 go_ret
 exact ⟨rfl,R1,R2⟩
set_option maxRecDepth 100000 in
theorem counts_c (g:Nat) (cs:List Int) (w:World) (hB:Blk w g 122 cs) (hl:cs.length=32768) (hk:Kinds cs) :
  Calls Tryz.prog 85 #[.pointer (some ⟨g,0,none⟩)] w fun e w'=>e = .returned (.slice (some ⟨w.heap.size,0,none⟩) 17 17)∧B64k w' w.heap.size 3 (cntTo cs 32768)∧Below w.heap.size w w':=by
 have hmk:=make17
 have hb:=B64k.new w 3 (cntTo cs 0)
 have hg:=hB.lt
 rw [show List.replicate 17 (0:Int)=cntTo cs 0 from rfl] at hmk
 generalize hL:cntTo cs 0=L at hmk hb
 go_enter Tryz.func85,Tryz.ntmps85
 go_wp2_with fail
 refine (all_c g _).mono ?_
 rintro _ w1 ⟨rfl,hw⟩
 rw [hw]
 clear hw w1
 go_wp2
 subst hL
 go_loopw [10] (fun i wr=>∃ n:Nat,n<=32768∧i = .int .i64 n∧B64k wr w.heap.size 3 (cntTo cs n)∧Below w.heap.size w wr) (fun i _=>32768-(intOf i).toNat)
 case atStart=>exact ⟨0,Nat.zero_le _,rfl,hb,(Below.refl _ _).alloc (Nat.le_refl _) _⟩
 case round =>
  obtain ⟨n,hn,rfl,hC,hb1⟩:=hrel
  by_cases hlt:n<32768
  ·have hc:wr.cell? ⟨g,n,none⟩=some (.int .u8 (cs.getD n 0)):=(hB.below hb1 hg).cell (by omega)
   obtain ⟨v0,v1⟩:=hk.at n
   obtain ⟨V,hV⟩:=Int.eq_ofNat_of_zero_le v0
   have hV17:V<17:=by omega
   have hd:=hC.cell (k:=V) (by rw [cntTo_length];exact hV17)
   have hf:=hC.free V
   obtain ⟨c0,c1⟩:=cntTo_at cs n V hV17
   have R1:B64k (wr.setCell ⟨w.heap.size,V,none⟩ (.int .i64 ((cntTo cs n).getD V 0+1))) w.heap.size 3 (cntTo cs (n+1)):=by
    have:=hC.set V ((cntTo cs n).getD V 0+1)
    rw [show cntTo cs (n+1)=(cntTo cs n).set (cs.getD n 0).toNat ((cntTo cs n).getD (cs.getD n 0).toNat 0+1) from rfl,hV,Int.toNat_natCast]
    exact this
   have R2:Below w.heap.size w (wr.setCell ⟨w.heap.size,V,none⟩ (.int .i64 ((cntTo cs n).getD V 0+1))):=hb1.setCell (p:=⟨w.heap.size,V,none⟩) (Nat.le_refl _) _
   rw [hV] at hc
   have hlt':(n:Int)<32768:=by omega
   have hg':¬ g=w.heap.size:=by omega
   generalize (cntTo cs n).getD V 0=c at *
   clear hC hb1 hV v0 v1
   go_wp2
   go_roundw
   case rel=>exact ⟨n+1,by omega,by go_num,R1,R2⟩
   case measure=>simp [intOf];omega
  ·obtain rfl:n=32768:=by omega
   go_wp2
   go_ret
   exact ⟨rfl,hC,hb1⟩
theorem size122:(Tryz.prog.info? 122).map (·.size)=some 32768:=by kernel_rfl
theorem Blk.range {w:World} {g:Nat} {t:TypeId} {cs:List Int} (h:Blk w g t cs):w.rangeAt g 0 (cs.map (Value.int .u8)):=fun j v hv=>by
 rw [Nat.zero_add,cell_of_row w g j _ t (0,0) h]
 simpa [vals] using hv
end Go.Proofs.YtlllmmceoeihkaaGreat.K
namespace Go.Proofs.YtlllmmceoeihkaaGreat.K
open Go.RowKit
structure Src (w:World) (a:Option Addr) (n:Nat) (bs:List Int):Prop where
 len:bs.length=n
 cells:∀ k,k<n->∃ b o,a=some ⟨b,o,none⟩∧b<w.heap.size∧w.cell? ⟨b,o+k,none⟩=some (.int .u8 (bs.getD k 0))
 byte:∀ k,0<=bs.getD k 0∧bs.getD k 0<=255
theorem Kinds.bytes {cs:List Int} (h:Kinds cs) (k:Nat):0<=cs.getD k 0∧cs.getD k 0<=255:=by
 have:=h.at k
 omega
theorem Blk.src {w:World} {g:Nat} {t:TypeId} {cs:List Int} (h:Blk w g t cs) (hk:Kinds cs):Src w (some ⟨g,0,none⟩) cs.length cs :=
 ⟨rfl,fun k hk'=>⟨g,0,rfl,h.lt,by rw [Nat.zero_add];exact h.cell hk'⟩,hk.bytes⟩
theorem copy_src {w:World} {h b o cap:Nat} {t':TypeId} {bs zs:List Int} (hS:∀ k,k<32768->w.cell? ⟨b,o+k,none⟩=some (.int .u8 (bs.getD k 0))) (hD:Blk w h t' zs) (lc:bs.length=32768) (lz:zs.length=32768) :
  (Builtin.copy_ #[61,61] 3 #[.slice (some ⟨h,0,none⟩) 32768 32768,.slice (some ⟨b,o,none⟩) 32768 cap]).run Tryz.prog w = .ok (.int .i64 32768) (w.setRow h (vals bs)):=by
 have:=run_copy_row (P:=Tryz.prog) w 61 61 3 5 h 0 32768 32768 ⟨b,o,none⟩ 32768 cap (vals zs) t' (bs.map (Value.int .u8)) Tryz.underlying61 size5 hD (by rw [List.length_map,lc];rfl)
  (fun j v hv=>by
   have hj:j<32768:=by rw [<- lc];simpa using (List.getElem?_eq_some_iff.1 hv).1
   rw [Addr.add_mid,hS j hj]
   rw [<- hv,List.getElem?_map,List.getElem?_eq_getElem (by omega),List.getD_eq_getElem?_getD,List.getElem?_eq_getElem (by omega)]
   rfl) (by rw [List.length_map,vals_size];omega) (by intro v hv;obtain ⟨x,_,rfl⟩:=List.mem_map.1 hv;rfl)
 rw [this,List.length_map,lc]
 have e:((vals zs).toList.take 0++bs.map (Value.int .u8)++(vals zs).toList.drop (0+32768)).toArray=vals bs:=by
  rw [List.drop_eq_nil_of_le (by rw [Array.length_toList,vals_size];omega),List.take_zero,List.nil_append,List.append_nil]
  rfl
 rw [e]
 rfl
set_option maxRecDepth 100000 in
set_option maxHeartbeats 800000 in
theorem from_c (a:Option Addr) (n cap:Nat) (bs:List Int) (w:World) (hS:Src w a n bs) (hn:n<=140737488355328) :
  Calls Tryz.prog 30 #[.slice a n cap] w fun e w'=>Below w.heap.size w w'∧((mayC bs=0∧e = .returned (.tuple #[.pointer (some ⟨w.heap.size,0,none⟩),.int .i64 0])∧Blk w' w.heap.size 122 bs)∨(mayC bs≠0∧e = .returned (.tuple #[.pointer none,.int .i64 (mayC bs)]))):=by
 obtain ⟨M,hM⟩:∃ M,M=mayC bs:=⟨_,rfl⟩
 rw [<- hM]
 unfold mayC at hM
 have hl:=hS.len
 rw [hl] at hM
 by_cases h1:n<32768
 ·rw [if_pos h1] at hM
  subst hM
  have h1':(n:Int)<32768:=by omega
  go_enter Tryz.func30,Tryz.ntmps30
  go_wp2
  go_ret2
  exact ⟨Below.refl _ _,Or.inr ⟨by decide,rfl⟩⟩
 ·rw [if_neg h1] at hM
  by_cases h2:32768<n
  ·rw [if_pos h2] at hM
   subst hM
   have h1':¬ (n:Int)<32768:=by omega
   have h2':(32768:Int)<n:=by omega
   go_enter Tryz.func30,Tryz.ntmps30
   go_wp2
   go_ret2
   first | exact ⟨Below.refl _ _,Or.inr ⟨by decide,rfl⟩⟩|exact ⟨Below.refl _ _,rfl⟩
  ·obtain rfl:n=32768:=by omega
   rw [if_neg h2] at hM
   clear h1 h2 hn
   have HR:Hid (M=if badTo bs 32768=true then 10 else 0):=hM
   clear hM
   obtain ⟨Z,hZe⟩:∃ Z,Z=List.replicate 32768 (0:Int):=⟨_,rfl⟩
   have hZ:Z.length=32768:=by rw [hZe,List.length_replicate]
   have hnew:=new_c w
   rw [<- hZe] at hnew
   clear hZe
   have Hnew:Hid (Calls Tryz.prog 56 #[] w fun e w'=>e = .returned (.pointer (some ⟨w.heap.size,0,none⟩))∧w'=w.alloc (.cells (vals Z) 122)):=hnew
   clear hnew
   have hc:=hS.cells
   have hu:=hS.byte
   go_enter Tryz.func30,Tryz.ntmps30
   go_wp2
   go_loop [15] (fun i=>∃ k:Nat,k<=32768∧i = .int .i64 k∧Hid (badTo bs k=false)) (fun i=>32768-(intOf i).toNat)
   case atStart=>exact ⟨0,Nat.zero_le _,rfl,rfl⟩
   case round =>
    obtain ⟨k,hk,rfl,HB⟩:=hrel
    by_cases hlt:k<32768
    ·obtain ⟨b,o,rfl,_,hcell⟩:=hc k hlt
     obtain ⟨u0,u1⟩:=hu k
     have hlt':(k:Int)<32768:=by omega
     have HS:Hid (badTo bs (k+1)=decide (16<bs.getD k 0)):=by show (badTo bs k || _)=_;rw [HB.out];rfl
     have HX:Hid (16<bs.getD k 0->badTo bs 32768=true):=fun hx=>badTo_mono bs (n:=k+1) (by omega) (by rw [HS.out];exact decide_eq_true hx)
     generalize bs.getD k 0=v at *
     have hq:=isKind_c v w
     by_cases hv:16<v
     ·have e:M=10:=by rw [HR.out,if_pos (HX.out hv)]
      subst e
      rw [decide_eq_false (by omega)] at hq
      clear HR HX HS HB hc hu Hnew
      go_wp2_with fail
      refine hq.mono ?_
      clear hq
      rintro _ w1 ⟨rfl,hw⟩
      rw [hw]
      clear hw w1
      go_wp2
      go_ret2
      exact ⟨Below.refl _ _,Or.inr ⟨by decide,rfl⟩⟩
     ·have H1:Hid (badTo bs (k+1)=false):=by show _=_;rw [HS.out];exact decide_eq_false hv
      rw [decide_eq_true (by omega)] at hq
      clear HX HS HB hc hu
      go_wp2_with fail
      refine hq.mono ?_
      clear hq
      rintro _ w1 ⟨rfl,hw⟩
      rw [hw]
      clear hw w1
      go_wp2
      go_round
      case rel=>exact ⟨k+1,by omega,by go_num,H1⟩
      case measure=>simp [intOf];omega
    ·obtain rfl:k=32768:=by omega
     have e:M=0:=by rw [HR.out,HB.out];rfl
     subst e
     obtain ⟨b,o,rfl,hbw,_⟩:=hc 0 (by omega)
     have hS':∀ k,k<32768->(w.alloc (.cells (vals Z) 122)).cell? ⟨b,o+k,none⟩=some (.int .u8 (bs.getD k 0)):=fun k hk=>by
      obtain ⟨b',o',e',_,hcell⟩:=hc k hk
      cases e'
      exact (((Below.refl w.heap.size w).alloc (Nat.le_refl _) _).cell (p:=⟨b,o+k,none⟩) hbw).trans hcell
     have hD:=Blk.new w 122 Z
     have hcp:=copy_src (cap:=cap) hS' hD hl hZ
     have R1:Blk ((w.alloc (.cells (vals Z) 122)).setRow w.heap.size (vals bs)) w.heap.size 122 bs:=hD.copied
     have R2:Below w.heap.size w ((w.alloc (.cells (vals Z) 122)).setRow w.heap.size (vals bs)):=((Below.refl _ w).alloc (Nat.le_refl _) _).trans ((setRow_only _ _ _).below (Nat.le_refl _))
     clear HR HB hc hu hS' hD
     go_wp2_with fail
     have hnew:=Hnew.out
     refine hnew.mono ?_
     clear Hnew hnew
     rintro _ _ ⟨rfl,rfl⟩
     go_wp2
     go_ret2
     exact ⟨R2,rfl,R1⟩
end Go.Proofs.YtlllmmceoeihkaaGreat.K
