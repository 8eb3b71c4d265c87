/-
  What groups and Put of the program answer, for every number and every row of at most 2^47 bytes: Put makes one new row, the bytes and the number in groups behind them, and turns nothing that was there.
-/
import Derived.Test.YtlllmmceoeihkaaGreatKGets
import Derived.Test.YtlllmmceoeihkaaGreatKLen
import Derived.Laws.CopyOwn
import Derived.Laws.BytesArg
namespace Go.Proofs.YtlllmmceoeihkaaGreat.K
open Go.RowKit
set_option maxHeartbeats 400000 in
theorem groups_any (n:Int) (w:World) (h0 : -9223372036854775808<=n) (h1:n<=9223372036854775807) :
  Calls Tryz.prog 148 #[.int .i64 n] w fun e w'=>e = .returned (.int .i64 (grp n))∧w'=w:=by
 by_cases hn:n<0
 ·have hg:grp n=0:=by unfold grp;rw [if_pos hn]
  rw [hg]
  go_enter Tryz.func148,Tryz.ntmps148
  go_wp2
  go_ret
  exact ⟨rfl,rfl⟩
 ·have HG:Hid ((grp n:Int)=max 1 (((Lib.bitLen n.toNat:Int)+7-1)/7)):=by
   show _=_
   unfold grp;rw [if_neg hn];omega
  have hb:Lib.bitLen n.toNat<=63:=Lib.bitLen_le n.toNat 63 (by omega) (by omega)
  go_enter Tryz.func148,Tryz.ntmps148
  go_wp2_with (go_at_call 150;go_must (refine (len n _ (by omega) (by omega)).mono ?_);rintro e w' ⟨rfl,rfl⟩)
  go_ret
  exact ⟨ret_int HG.out.symm,rfl⟩
theorem Tryz.info5:(Tryz.prog.info? 5).map (fun i=>(i.zero,i.size,i.bytes))=some (some (.int .u8 0),1,1):=by kernel_rfl
def Row (w:World) (g:Nat) (zs:List Int):Prop:=w.heap[g]?=some (.cells (zs.map (Value.int .u8)).toArray 5 (0,0))
theorem Row.cell {w:World} {g:Nat} {zs:List Int} (h:Row w g zs) (k:Nat) (hk:k<zs.length):w.cell? ⟨g,k,none⟩=some (.int .u8 zs[k]):=by
 rw [cell_of_row w g k _ 5 (0,0) h]
 simp [hk]
theorem Row.free {w:World} {g:Nat} {zs:List Int} (h:Row w g zs) (k:Nat):w.frozen? ⟨g,k,none⟩=false:=frozen_of_row w g k _ 5 h
theorem Row.set {w:World} {g:Nat} {zs:List Int} (h:Row w g zs) (k:Nat) (z:Int):Row (w.setCell ⟨g,k,none⟩ (.int .u8 z)) g (zs.set k z):=by
 unfold Row
 rw [heap_setCell_same w g k _ 5 _ h,List.setIfInBounds_toArray,List.map_set]
theorem Row.bytes {w:World} {g:Nat} {zs:List Int} (h:Row w g zs) (hf:∀ z∈zs,0<=z∧z<=255) (len:Nat) (hl:zs.length=len):Bytes w (some ⟨g,0,none⟩) len zs :=
 ⟨hl,.inr ⟨g,0,rfl,fun k hk=>by rw [Nat.zero_add];exact h.cell k hk⟩,hf⟩
theorem Row.below {B:Nat} {w w':World} {g:Nat} {zs:List Int} (h:Row w g zs) (hb:Below B w w') (hg:g<B):Row w' g zs:=by
 unfold Row;rw [hb.block g hg];exact h
theorem Row.lt {w:World} {g:Nat} {zs:List Int} (h:Row w g zs):g<w.heap.size:=(Array.getElem?_eq_some_iff.1 h).1
theorem Bytes.later {w w':World} {a:Option Addr} {len:Nat} {xs:List Int} (h:Bytes w a len xs) (hb:Below w.heap.size w w'):Bytes w' a len xs:=by
 refine ⟨h.n,?_,h.fit⟩
 rcases h.cells with e | ⟨b,off,e,hc⟩
 ·exact .inl e
 ·refine .inr ⟨b,off,e,fun k hk=>?_⟩
  have hlt:=World.block_lt_of_cell? w _ (hc k hk)
  exact (hb.cell (p:=⟨b,off+k,none⟩) hlt).trans (hc k hk)
theorem row_step (xs:List Int) (n:Int) (k G len:Nat) (hx:xs.length=len) (hk:k<G) :
  (xs++digs n k++List.replicate (G-k) 0).set (len+k) (n/128 ^ k%128+128)=xs++digs n (k+1)++List.replicate (G-(k+1)) 0:=by
 rw [List.set_append_right _ _ (by simp [digs_len];omega),show G-k=(G-(k+1))+1 by omega,List.replicate_succ,digs_succ]
 simp [digs_len,hx]
theorem row_end (xs:List Int) (n z:Int) (k len:Nat) (hx:xs.length=len) :
  (xs++digs n (k+1)).set (len+k) z=xs++(digs n k++[z]):=by
 rw [List.set_append_right _ _ (by omega),digs_succ,List.set_append_right _ _ (by simp [digs_len];omega)]
 simp [digs_len,hx]
theorem wpList_make_bytes (w:World) {ops:Array Oper} {rest:List Oper} {o:Oper} {a:Act} {Q:Exit->Act->World->Prop}
  (hg:o.guard=none) (l c:Operand) (hop:o.op=Op.makeSlice 61 l c) (L:Int) (n:Nat) (hl:a.eval l = .int .i64 L) (hc:a.eval c = .int .i64 L) (hL:L=(n:Int)) (hn:n<=281474976710656)
  (hK:∀ w',Hid (Row w' w.heap.size (List.replicate n 0))->Below w.heap.size w w'->wpList Tryz.prog ops Q rest (a.put o.dst (.slice (some ⟨w.heap.size,0,none⟩) n n)) w') :
  wpList Tryz.prog ops Q (o::rest) a w:=by
 obtain ⟨i,hi,hz0,hz1,hz2⟩:=info_parts Tryz.info5
 refine wpList_make_full w hg l c 61 hop w.heap.size 5 i (.int .u8 0) 1 Tryz.underlying61 hi hz0 hz1 .i64 .i64 L L n hl hc hL hL (by rw [hz2];omega) (by unfold maxLen;omega) (Nat.le_refl _) ?_
 intro w' hown hgrow
 refine hK w' ?_ ((Below.refl _ _).grown hgrow (Nat.le_refl _) (by simp))
 rcases hown.2 with ⟨h,_⟩|⟨g,cap,cur,hv,_,hh,_,_,hs,ht⟩
 ·simp at h
 ·simp only [Value.slice.injEq,Option.some.injEq,Addr.mk.injEq] at hv
  obtain ⟨⟨rfl,_⟩,_,rfl⟩:=hv
  show Row _ _ _
  unfold Row
  rw [hh]
  have e:cur.toList=List.replicate n (Value.int .u8 0):=by
   rw [List.take_of_length_le (by simp;omega)] at ht
   rw [ht]
   simp [Value.cells,toList_madeCells_one]
  rw [List.map_replicate,<- e]
theorem wpList_copy_bytes {w:World} {ops:Array Oper} {rest:List Oper} {o:Oper} {a:Act} {Q:Exit->Act->World->Prop} (hgd:o.guard=none) (d s:Operand)
  (ho:o.op = .call { callee:=.builtin .copy,args := #[d,s],argTypes := #[61,61] }) (g dLen dCap:Nat) (sp:Option Addr) (sLen sCap:Nat) (hd:a.eval d = .slice (some ⟨g,0,none⟩) dLen dCap) (hs:a.eval s = .slice sp sLen sCap)
  (zs xs:List Int) (hR:Row w g zs) (hz:zs.length=dLen) (hX:Bytes w sp sLen xs) (hle:sLen<=dLen) (B:Nat) (w0:World) (hb:Below B w0 w) (hBg:B<=g)
  (h:∀ w',Hid (Row w' g (xs++zs.drop sLen))->Below B w0 w'->wpList Tryz.prog ops Q rest (a.put o.dst (goInt sLen)) w'):wpList Tryz.prog ops Q (o::rest) a w:=by
 have hn:=hX.n
 obtain ⟨i,hi,hz0,hz1,hz2⟩:=info_parts Tryz.info5
 refine wpList_copy_splice hgd d s 61 61 ho 5 Tryz.underlying61 (by rw [hi];simp [hz1]) _ sp dLen dCap sLen sCap hd hs g 0 (zs.map (Value.int .u8)) 5 hR (xs.map (Value.int .u8)) (by rw [List.length_map,hn];exact (Nat.min_eq_left hle).symm) ?_ (by simp;omega) (ints_oneCell _ _) B w0 hb hBg ?_
 ·intro hp
  rcases hX.cells with e | ⟨b,off,e,hc⟩
  ·simp [e] at hp
  ·refine ⟨rfl,_,e,fun j v hj=>?_⟩
   obtain ⟨hj',hv⟩:=List.getElem?_eq_some_iff.1 hj
   rw [List.length_map] at hj'
   rw [Addr.add_lit,hc j hj',<- hv]
   simp
 ·intro w' hw hbel
  rw [List.length_map,hn]
  refine h w' ?_ hbel
  have hw:=hw.out
  show Row _ _ _
  unfold Row
  rw [hw]
  simp [splice,hn]
set_option maxHeartbeats 1000000 in
theorem put_any (a:Option Addr) (len cap:Nat) (xs:List Int) (n:Int) (w:World) (hl:len<=140737488355328) (h0 : -9223372036854775808<=n) (h1:n<=9223372036854775807) (hB:Bytes w a len xs) :
  Calls Tryz.prog 138 #[.slice a len cap,.int .i64 n] w fun e w'=>e = .returned (.slice (some ⟨w.heap.size,0,none⟩) (len+(putL n).length) (len+(putL n).length))∧Row w' w.heap.size (xs++putL n)∧Below w.heap.size w w':=by
 have H:Hid (Bytes w a len xs):=hB
 clear hB
 have hg9:grp n<=9:=by
  by_cases hn:n<0
  ·unfold grp;rw [if_pos hn];omega
  ·exact (grp_spec n (by omega) (by omega)).2.1
 obtain ⟨G,hG⟩:∃ G,G=grp n:=⟨_,rfl⟩
 rw [<- hG] at hg9
 have HG:Hid (G=grp n):=hG
 clear hG
 go_enter Tryz.func138,Tryz.ntmps138
 go_wp2_with (first | (go_at_call 148;go_must (refine (groups_any n _ h0 h1).mono ?_);rintro e w' ⟨rfl,hw⟩;subst w';rw [<- HG.out]) | (at_make;refine wpList_make_bytes _ rfl _ _ rfl _ (len+G) rfl rfl (by omega) (by omega) ?_;intro w1 HR1 hb1) | (refine wpList_copy_bytes rfl (.tmp 15) (.tmp 16) rfl w.heap.size (len+G) (len+G) a len cap rfl rfl (List.replicate (len+G) 0) xs HR1.out (by simp) (H.out.later hb1) (by omega) w.heap.size w hb1 (Nat.le_refl _) ?_;intro w2 HR2 hb2;clear HR1))
 have HN:Hid (0<G->0<=n):=by
  intro hp
  have:=HG.out
  by_cases hn:n<0
  ·unfold grp at this;rw [if_pos hn] at this;omega
  ·omega
 replace HR2:Hid (Row w2 w.heap.size (xs++digs n 0++List.replicate (G-0) 0)):=by
  have:=HR2.out
  simpa [digs,Hid] using this
 clear hb1 w1
 go_loopw [1,19] (fun x i wr=>∃ k:Nat,k<=G∧i = .int .i64 k∧x = .int .i64 (n/128 ^ k)∧Hid (Row wr w.heap.size (xs++digs n k++List.replicate (G-k) 0))∧Below w.heap.size w wr) (fun _ i _=>G-(intOf i).toNat)
 case atStart=>exact ⟨0,Nat.zero_le _,rfl,by simp,HR2,hb2⟩
 case round =>
  obtain ⟨k,hk,rfl,rfl,HR,hb⟩:=hrel
  clear HR2 hb2
  by_cases hkG:k<G
  ·have hlen:xs.length=len:=H.out.n
   have hcell:wr.cell? ⟨w.heap.size,len+k,none⟩=some (.int .u8 0):=by
    rw [HR.out.cell (len+k) (by simp [digs_len];omega)]
    congr 2
    rw [List.getElem_append_right (by simp [digs_len];omega)]
    simp
   have hfree:wr.frozen? ⟨w.heap.size,len+k,none⟩=false:=HR.out.free _
   have m0:0<=n/128 ^ k:=div_pow_nonneg n k (HN.out (by omega))
   have m1:n/128 ^ k<=n:=div_pow_le n k (HN.out (by omega))
   obtain ⟨m,hm⟩:∃ m,m=n/128 ^ k:=⟨_,rfl⟩
   rw [<- hm] at m0 m1
   rw [<- hm]
   have HM:Hid (m=n/128 ^ k):=hm
   clear hm hlen
   have ha:=i64_and127 m
   have ho:=orTop (m%128) (by omega) (by omega)
   have HRk:Hid (Row (wr.setCell ⟨w.heap.size,len+k,none⟩ (.int .u8 (m%128+128))) w.heap.size (xs++digs n (k+1)++List.replicate (G-(k+1)) 0)):=by
    show Row _ _ _
    rw [<- row_step xs n k G len H.out.n hkG,<- HM.out]
    exact HR.out.set _ _
   go_wp2
   go_roundw
   case rel=>exact ⟨k+1,by omega,by go_num,by rw [div_pow_succ,<- HM.out],HRk,hb.setCell (Nat.le_refl _) _⟩
   case measure=>simp [intOf];omega
  ·obtain rfl:k=G:=by omega
   clear hkG hk
   have HL:Hid ((putL n).length=k):=by
    show _=_
    by_cases hn:n<0
    ·have:=HG.out
     unfold grp at this
     rw [if_pos hn] at this
     simp [putL,hn,this]
    ·rw [putL_len n (by omega) (by omega)];exact HG.out.symm
   by_cases hk0:k=0
   ·subst hk0
    go_wp2
    go_ret
    refine ⟨by rw [HL.out];rfl,?_,hb⟩
    have:=HR.out
    rw [List.eq_nil_of_length_eq_zero HL.out]
    simpa [digs] using this
   ·obtain ⟨j,rfl⟩:∃ j,k=j+1:=⟨k-1,by omega⟩
    have n0:=HN.out (by omega)
    have hR:=HR.out
    rw [Nat.sub_self,List.replicate_zero,List.append_nil] at hR
    have hlen:=H.out.n
    have hcell:wr.cell? ⟨w.heap.size,len+j,none⟩=some (.int .u8 (n/128 ^ j%128+128)):=by
     rw [hR.cell (len+j) (by simp [digs_len];omega)]
     congr 2
     rw [List.getElem_append_right (by omega)]
     simp [digs,hlen]
    have hfree:wr.frozen? ⟨w.heap.size,len+j,none⟩=false:=hR.free _
    have HE:Hid (Row (wr.setCell ⟨w.heap.size,len+j,none⟩ (.int .u8 ((n/128 ^ j%128+128)%128))) w.heap.size (xs++putL n)):=by
     show Row _ _ _
     rw [putL_digs n n0 (by omega) j HG.out,<- row_end xs n _ j len hlen]
     exact hR.set _ _
    clear hR hlen HR
    obtain ⟨v,hv⟩:∃ v,v=n/128 ^ j%128+128:=⟨_,rfl⟩
    have v0:0<=v∧v<=255:=by omega
    rw [<- hv] at hcell HE
    clear hv
    have ha:=and7 v v0.1 v0.2
    go_wp2
    go_ret
    exact ⟨by rw [HL.out];rfl,HE,hb.setCell (Nat.le_refl _) _⟩
end Go.Proofs.YtlllmmceoeihkaaGreat.K
