/-
  What a write of the disk leaves: blocks that hold bytes, slices, pointers or functions are as they were.
  Small functions of the journal: own, noteAt, readOwn, the sum of bytes, slices.Equal of equal bytes.
  check: what is wrong with a group?
  Four numbers as bytes, and back: row.bytes and rowOf.
  rowOf: the numbers of a block.
  What a step of a group's writing hands back: blocks; the group's own blocks; the end of its head.
-/
import Derived.Test.YtlllmmceoeihkaaGreatJJspec
import Derived.Test.YtlllmmceoeihkaaGreatJJmath
import Derived.Lib.Walk
import Derived.BigQuiet
import Derived.StillTailTactics
set_option maxRecDepth 20000
namespace Go.Proofs.YtlllmmceoeihkaaGreat
section
open Go.RowKit Go.Maps
def Datum (v:Value):Prop:=(∀ m,v ≠ .map m)∧(∀ x,v ≠ .int .i64 x)∧∀ b,v ≠ .bool b
theorem datum_byte (z:Int):Datum (.int .u8 z):=by refine ⟨?_,?_,?_⟩ <;> intro _ h <;> cases h
theorem datum_slice (a:Option Addr) (n c:Nat):Datum (.slice a n c):=by refine ⟨?_,?_,?_⟩ <;> intro _ h <;> cases h
theorem datum_pointer (a:Option Addr):Datum (.pointer a):=by refine ⟨?_,?_,?_⟩ <;> intro _ h <;> cases h
structure Same (w w':World):Prop where
 size:w.heap.size<=w'.heap.size
 block:∀ k i v,w.cell? ⟨k,i,none⟩=some v->Datum v->w'.heap[k]?=w.heap[k]?
theorem Same.refl (w:World):Same w w:=⟨Nat.le_refl _,fun _ _ _ _ _=>rfl⟩
theorem Same.cell {w w':World} (h:Same w w') {k i j:Nat} {u v:Value} (hu:w.cell? ⟨k,i,none⟩=some u) (hd:Datum u) (hv:w.cell? ⟨k,j,none⟩=some v):w'.cell? ⟨k,j,none⟩=some v:=by
 rw [<- hv]
 exact World.cell?_of_block (a:=⟨k,j,none⟩) (h.block k i u hu hd)
theorem Same.trans {a b c:World} (h:Same a b) (k:Same b c):Same a c :=
 ⟨Nat.le_trans h.size k.size,fun j i v hv hd=>(k.block j i v (h.cell hv hd hv) hd).trans (h.block j i v hv hd)⟩
theorem Same.below {w w':World} (h:Below w.heap.size w w'):Same w w':=⟨h.size,fun k i _ hv _=>h.block k (World.block_lt_of_cell? w ⟨k,i,none⟩ hv)⟩
theorem Bytes.kept {w w':World} {a:Option Addr} {len:Nat} {xs:List Int} (h:Bytes w a len xs) (hs:Same w w'):Bytes w' a len xs:=by
 refine ⟨h.n,?_,h.fit⟩
 rcases h.cells with e | ⟨b,off,e,hc⟩
 ·exact .inl e
 ·exact .inr ⟨b,off,e,fun k hk=>hs.cell (hc k hk) (datum_byte _) (hc k hk)⟩
theorem PutAt.same {w w':World} {b off k:Nat} {o:Pt} (h:PutAt w b off k o) (hs:Same w w'):PutAt w' b off k o :=
 ⟨hs.cell h.c4 (datum_slice _ _ _) h.c0,hs.cell h.c4 (datum_slice _ _ _) h.c1,hs.cell h.c4 (datum_slice _ _ _) h.c2,hs.cell h.c4 (datum_slice _ _ _) h.c3,hs.cell h.c4 (datum_slice _ _ _) h.c4,h.by_.kept hs,h.nil,h.cap,h.bd,h.sz⟩
theorem Puts.same {w w':World} {a:Option Addr} {l:List Pt} (h:Puts w a l) (hs:Same w w'):Puts w' a l:=fun k hk=>by
 obtain ⟨b,off,e,ho⟩:=h k hk
 exact ⟨b,off,e,ho.same hs⟩
def Ft (g:Nat) (mb ml:Option Nat):Nat->Prop:=fun k=>k=g∨mb=some k∨ml=some k
theorem PD.tight {F:Nat->Prop} {w:World} {g:Nat} {S:St} {mb ml:Option Nat} (h:PD F w g S mb ml):PD (Ft g mb ml) w g S mb ml∧∀ k,Ft g mb ml k->F k:=by
 have hm:PMaps (Ft g mb ml) w g S mb ml∧∀ k,Ft g mb ml k->F k:=by
  rcases h.maps with ⟨h1,h2,h3⟩|⟨b,l,Db,Dl,h1,h2,h3,h4,h5,h6,h7,h8⟩
  ·refine ⟨Or.inl ⟨h1,h2,h3⟩,fun k hk=>?_⟩
   rcases hk with rfl | hk | hk
   ·exact h.inF
   ·rw [h1] at hk;cases hk
   ·rw [h2] at hk;cases hk
  ·refine ⟨Or.inr ⟨b,l,Db,Dl,h1,h2,h3,h4,h5,Or.inr (Or.inl h1),Or.inr (Or.inr h2),h8⟩,fun k hk=>?_⟩
   rcases hk with rfl | hk | hk
   ·exact h.inF
   ·rw [h1] at hk;cases hk;exact h6
   ·rw [h2] at hk;cases hk;exact h7
 exact ⟨⟨h.head,hm.1,Or.inl rfl,h.ok,h.fit,h.fil,h.arm,h.bds⟩,hm.2⟩
theorem cell_map {w:World} {b i:Nat} {es:_} {clock:_} {v:Value} (h:w.heap[b]?=some (.map es clock)):w.cell? ⟨b,i,none⟩≠some v:=by
 intro hv
 simp [World.cell?,h] at hv
theorem PD.same {F:Nat->Prop} {w w':World} {g:Nat} {S:St} {mb ml:Option Nat} (h:PD F w g S mb ml) (hC:Chg (Ft g mb ml) w w'):Same w w':=by
 refine ⟨hC.size,fun k i v hv hd=>hC.block k (World.block_lt_of_cell? w ⟨k,i,none⟩ hv) (fun hk=>?_)⟩
 rcases hk with rfl | hk | hk
 ·rw [cell_of_row w k i _ 86 (0,0) h.head] at hv
  match i,hv with
  | 0,hv=>exact hd.1 _ (by simpa using hv.symm)
  | 1,hv=>exact hd.1 _ (by simpa using hv.symm)
  | 2,hv=>exact hd.2.1 _ (by simpa using hv.symm)
  | 3,hv=>exact hd.2.1 _ (by simpa using hv.symm)
  | 4,hv=>exact hd.2.2 _ (by simpa using hv.symm)
  | n+5,hv=>simp at hv
 ·rcases h.maps with ⟨h1,_⟩|⟨b,l,Db,Dl,h1,h2,⟨_,_,h3,_⟩,_⟩
  ·rw [h1] at hk;cases hk
  ·rw [h1] at hk;cases hk;exact cell_map h3 hv
 ·rcases h.maps with ⟨_,h2,_⟩|⟨b,l,Db,Dl,h1,h2,_,⟨_,_,h3,_⟩,_⟩
  ·rw [h2] at hk;cases hk
  ·rw [h2] at hk;cases hk;exact cell_map h3 hv
structure Dk (F:Nat->Prop) (w0 w:World) (d:Nat) (S:St):Prop where
 disk:PDisk (Gr F w0 w) w d S
 chg:Chg F w0 w
 same:Same w0 w
 lt:∀ k,F k->k<w0.heap.size
theorem Dk.start {F:Nat->Prop} {w:World} {d:Nat} {S:St} (h:PDisk F w d S) (hF:∀ k,F k->k<w.heap.size):Dk F w w d S:=⟨h.more (fun _ h=>Or.inl h),Chg.refl _ _,Same.refl _,hF⟩
theorem Chg.grow {F:Nat->Prop} {a b c:World} (h:Chg F a b) (hb:Below b.heap.size b c):Chg F a c:=h.trans (Chg.of_below (F:=F) hb) (fun _ h=>Or.inl h)
theorem Dk.below {F:Nat->Prop} {w0 w w':World} {d:Nat} {S:St} (h:Dk F w0 w d S) (hb:Below w.heap.size w w'):Dk F w0 w' d S:=by
 have hs:=hb.size
 refine ⟨?_,h.chg.grow hb,h.same.trans (Same.below hb),h.lt⟩
 refine (h.disk.keep (fun k hk=>hb.block k (Gr.lt h.lt h.chg.size k hk))).more (fun k hk=>hk.imp id (fun h=>⟨h.1,by omega⟩))
theorem Dk.drew {F:Nat->Prop} {w0 w:World} {d:Nat} {S:St} (h:Dk F w0 w d S):Dk F w0 w.drew d S:=h.below ⟨rfl,rfl,rfl,Nat.le_refl _,fun _ _=>rfl⟩
theorem write_s {F:Nat->Prop} {w0:World} (d:Nat) (S:St) (f1 f2 f3 i:Int) (sa:Option Addr) (n sc:Nat) (bs:List Int) (hf:I64F (f1,f2,f3)) (w:World) (hD:Dk F w0 w d S) (hX:Bytes w sa n bs) (hw:S.writes<1000000) :
  Calls Tryz.prog 102 #[.pointer (some ⟨d,0,none⟩),.agg #[.int .i64 f1,.int .i64 f2,.int .i64 f3],.int .i64 i,.slice sa n sc] w fun e w'=>e = .returned (.int .i64 (S.write (f1,f2,f3) i bs).1)∧Dk F w0 w' d (S.write (f1,f2,f3) i bs).2∧Same w w':=by
 obtain ⟨mb,ml,hP⟩:=hD.disk
 obtain ⟨hT,hTF⟩:=hP.tight
 have hlt:∀ k,Ft d mb ml k->k<w.heap.size:=fun k hk=>Gr.lt hD.lt hD.chg.size k (hTF k hk)
 refine (write_c (Ft d mb ml) d S f1 f2 f3 i sa n sc bs hf w ⟨mb,ml,hT⟩ hlt hX hw).mono ?_
 rintro e w' ⟨rfl,hD',hC⟩
 have hs:=hC.size
 have hs0:=hD.chg.size
 have hS:=hT.same hC
 refine ⟨rfl,⟨?_,?_,hD.same.trans hS,hD.lt⟩,hS⟩
 ·refine hD'.more (fun k hk=>?_)
  rcases hk with hk | hk
  ·exact (hTF k hk).imp id (fun h=>⟨h.1,by omega⟩)
  ·exact Or.inr ⟨by omega,hk.2⟩
 ·exact hD.chg.trans hC (fun k hk=>(hTF k hk).imp id (fun h=>h.1))
theorem read_s {F:Nat->Prop} {w0:World} (d:Nat) (S:St) (f1 f2 f3 i:Int) (hf:I64F (f1,f2,f3)) (hi:I64 i) (w:World) (hD:Dk F w0 w d S) :
  Calls Tryz.prog 119 #[.pointer (some ⟨d,0,none⟩),.agg #[.int .i64 f1,.int .i64 f2,.int .i64 f3],.int .i64 i] w fun e w'=>PReadSay (S.read (f1,f2,f3) i) w e w'∧Dk F w0 w' d S:=by
 refine (read_c _ d S f1 f2 f3 i hf hi w hD.disk).mono ?_
 intro e w' h
 exact ⟨h,hD.below h.1⟩
theorem on_s {F:Nat->Prop} {w0:World} (d:Nat) (S:St) (w:World) (hD:Dk F w0 w d S):Calls Tryz.prog 103 #[.pointer (some ⟨d,0,none⟩)] w fun e w'=>e = .returned (.bool (!S.out))∧w'=w:=on_c _ d S w hD.disk
end
section
open Go.RowKit
theorem own_c (i:Int) (a:Option Addr) (n c:Nat) (w:World):Calls Tryz.prog 104 #[.int .i64 i,.slice a n c] w fun e w'=>e = .returned (.agg #[.int .i64 1,.int .i64 0,.int .i64 0,.int .i64 i,.slice a n c])∧Below w.heap.size w w':=by
 go_enter Tryz.func104,Tryz.ntmps104
 go_wp2
 exact bodyPost_ret (results_cell_row rfl _ _ w.heap.size 181 _ (0,0) _ rfl (heap_alloc_new w _) Tryz.underlying181 rfl (by kernel_rfl)) rfl ⟨rfl,(Below.refl _ _).alloc (Nat.le_refl _) _⟩
theorem noteAt_c (k:Int) (h0:0<=k) (h1:k<=1000000) (w:World):Calls Tryz.prog 105 #[.int .i64 k] w fun e w'=>e = .returned (.int .i64 (1+2*k))∧w'=w:=by
 go_enter Tryz.func105,Tryz.ntmps105
 go_wp2
 go_ret
 exact ⟨rfl,rfl⟩
theorem fnv_walk (x c:Int) (h0:0<=x) (h1:x<=4294967295) (c0:0<=c) (c1:c<=255):bits .xor .u32 x c*16777619%4294967296=fnv x c:=by
 rw [u32_xor x c h0 (by omega) c0 (by omega),fnv]
set_option maxHeartbeats 400000 in
theorem sum_any (a:Option Addr) (len cap:Nat) (xs:List Int) (w:World) (hl:len<=140737488355328) (hB:Bytes w a len xs) :
  Calls Tryz.prog 107 #[.slice a len cap] w fun e w'=>e = .returned (.int .u32 (sumL xs))∧w'=w:=by
 have H:Hid (Bytes w a len xs):=hB
 clear hB
 go_enter Tryz.func107,Tryz.ntmps107
 go_wp2
 go_loop [3,8] (fun x i=>∃ k:Nat,k<=len∧i = .int .i64 k∧x = .int .u32 (sumL (xs.take k))) (fun _ i=>len-(intOf i).toNat)
 case atStart=>exact ⟨0,Nat.zero_le _,rfl,rfl⟩
 case round =>
  obtain ⟨k,hk,rfl,rfl⟩:=hrel
  by_cases hlt:k<len
  ·obtain ⟨b,off,z,rfl,hcell,z0,z1,hk',hz⟩:=H.out.get k hlt
   have HS:Hid (sumL (xs.take (k+1))=fnv (sumL (xs.take k)) z):=by rw [hz];exact sumL_succ xs k hk'
   have hs:=sumL_bd (xs.take k)
   clear hz hk'
   generalize sumL (xs.take k)=s at *
   have hx:=fnv_walk s z hs.1 hs.2 z0 z1
   go_wp2
   go_round
   case rel=>exact ⟨k+1,by omega,by go_num,by rw [HS.out,hx]⟩
   case measure=>simp [intOf];omega
  ·go_wp2
   go_ret
   exact ⟨ret_int (by rw [List.take_of_length_le (by have:=H.out.n;omega)]),rfl⟩
def ROwn (F:Nat->Prop) (w0:World) (d:Nat) (S:St) (i:Int) (w:World) (e:Ending) (w':World):Prop:=PReadSay (S.read J0 i) w e w'∧Dk F w0 w' d S
theorem PReadSay.back {R:Int×List Int} {w w1 w2:World} {e:Ending} (h:PReadSay R w1 e w2) (hb:Below w.heap.size w w1):PReadSay R w e w2:=by
 have hs:=hb.size
 refine ⟨hb.trans (h.1.mono hs),h.2.imp id ?_⟩
 rintro ⟨p,h1,h2⟩
 exact ⟨p,by omega,h2⟩
set_option maxHeartbeats 400000 in
theorem readOwn_c {F:Nat->Prop} {w0:World} (d:Nat) (S:St) (i:Int) (hi:I64 i) (w:World) (hD:Dk F w0 w d S) :
  Calls Tryz.prog 121 #[.pointer (some ⟨d,0,none⟩),.int .i64 i] w (ROwn F w0 d S i w):=by
 obtain ⟨Post,hPost⟩:∃ Post,Post=ROwn F w0 d S i w:=⟨_,rfl⟩
 rw [<- hPost]
 have HP:Hid (∀ e w',PReadSay (S.read J0 i) w e w'->Dk F w0 w' d S->Post e w'):=fun e w' h1 h2=>by rw [hPost];exact ⟨h1,h2⟩
 have HD:Hid (Dk F w0 w d S):=hD
 clear hPost hD
 go_enter Tryz.func121,Tryz.ntmps121
 go_wp2_with fail
 refine (own_c i none 0 0 w).mono ?_
 rintro _ w1 ⟨rfl,hb1⟩
 have HD1:Hid (Dk F w0 w1 d S):=HD.out.below hb1
 have Hb1:Hid (Below w.heap.size w w1):=hb1
 clear hb1 HD
 have hfl:(Instr.field 181 (.agg #[.int .i64 1,.int .i64 0,.int .i64 0,.int .i64 i,.slice none 0 0]) 0).run Tryz.prog w1 = .ok (.agg #[.int .i64 1,.int .i64 0,.int .i64 0]) w1:=by kernel_rfl
 go_wp2_with fail
 refine (read_s d S 1 0 0 i ⟨⟨by decide,by decide⟩,⟨by decide,by decide⟩,⟨by decide,by decide⟩⟩ hi w1 HD1.out).mono ?_
 rintro e w2 ⟨h,hD2⟩
 have h':=h.back Hb1.out
 obtain ⟨_,⟨h0,rfl⟩|⟨p,hp,rfl,hB,hl,hf⟩⟩:=h
 ·have R:=HP.out _ _ h' hD2
  clear HP HD1 hD2 h' Hb1 h0
  go_wp2
  exact R
 ·have R:=HP.out _ _ h' hD2
  clear HP HD1 hD2 h' Hb1 hB hl hf hp
  go_wp2
  exact R
set_option maxHeartbeats 400000 in
theorem equal_c (a b:Option Addr) (n c d:Nat) (xs:List Int) (w:World) (hn:n<=140737488355328) (hA:Bytes w a n xs) (hB:Bytes w b n xs) :
  Calls Tryz.prog 124 #[.slice a n c,.slice b n d] w fun e w'=>e = .returned (.bool true)∧Below w.heap.size w w':=by
 have HA:Hid (Bytes w a n xs):=hA
 have HB:Hid (Bytes w b n xs):=hB
 clear hA hB
 go_enter Tryz.func124,Tryz.ntmps124
 go_wp2
 go_loopw [13] (fun v wr=>∃ k:Nat,k<=n∧v = .int .i64 k∧Hid (Below w.heap.size w wr)) (fun v _=>n-(intOf v).toNat)
 case atStart=>exact ⟨0,Nat.zero_le _,rfl,Below.refl _ _⟩
 case round =>
  obtain ⟨k,hk,rfl,Hb⟩:=hrel
  by_cases hlt:k<n
  ·obtain ⟨b1,off1,z,rfl,hc1,_,_,hk1,hz1⟩:=(HA.out.later Hb.out).get k hlt
   obtain ⟨b2,off2,y,rfl,hc2,_,_,hk2,hz2⟩:=(HB.out.later Hb.out).get k hlt
   obtain rfl:y=z:=by rw [hz1,hz2]
   clear hz1 hz2 hk1 hk2
   go_wp2
   go_big_quiet (fail)
   have Hb2:Hid (∀ m,Below w.heap.size w (wr.drewN m)):=fun _=>⟨Hb.out.os,Hb.out.tape,Hb.out.output,Hb.out.size,Hb.out.block⟩
   clear Hb
   go_wp2
   go_roundw
   case rel=>exact ⟨k+1,by omega,by go_num,Hb2.out _⟩
   case measure=>simp [intOf];omega
  ·go_wp2
   go_ret
   exact ⟨rfl,Hb.out⟩
end
section
open Go.RowKit
set_option maxHeartbeats 1000000 in
theorem check_c (a:Option Addr) (len cap:Nat) (l:List Pt) (w:World) (hl:l.length=len) (hle:len<=maxLen) (hP:Puts w a l) :
  Calls Tryz.prog 75 #[.slice a len cap] w fun e w'=>e = .returned (.int .i64 (may (l.map Pt.bk)))∧Below w.heap.size w w':=by
 obtain ⟨Post,hPost⟩:∃ Post:Ending->World->Prop,Post=fun e w'=>e = .returned (.int .i64 (may (l.map Pt.bk)))∧Below w.heap.size w w':=⟨_,rfl⟩
 rw [<- hPost]
 have HP:Hid (∀ m w',may (l.map Pt.bk)=m->Below w.heap.size w w'->Post (.returned (.int .i64 m)) w'):=fun m w' h hb=>by rw [hPost,h];exact ⟨rfl,hb⟩
 clear hPost
 have Hl:Hid (l.length=len):=hl
 have HPs:Hid (Puts w a l):=hP
 clear hl hP
 have hle':(len:Int)<=9223372036854775807:=by unfold maxLen at hle;omega
 clear hle
 go_enter Tryz.func75,Tryz.ntmps75
 go_wp2
 go_loopw [7] (fun v wr=>∃ (j:Nat),j<=len∧v = .int .i64 (j:Int)∧Hid (Below w.heap.size w wr)∧Hid (((l.map Pt.bk).take j).any badB=false)) (fun v _=>len-(intOf v).toNat)
 case atStart=>exact ⟨0,Nat.zero_le _,rfl,Below.refl _ _,rfl⟩
 case round =>
  obtain ⟨j,hj,rfl,Hb,HB⟩:=hrel
  by_cases hlt:j<len
  ·have hlt':(j:Int)<len:=by omega
   have hjl:j<l.length:=by rw [Hl.out];exact hlt
   obtain ⟨b,off,rfl,hO0⟩:=HPs.out j hjl
   have hO:=hO0.on Hb.out
   clear hO0
   have Hb2:Hid (∀ ob,Below w.heap.size w (wr.alloc ob)):=fun ob=>Hb.out.alloc Hb.out.size ob
   have Hnext:Hid (badB l[j].bk=false->((l.map Pt.bk).take (j+1)).any badB=false):=fun h=>by
    rw [any_take_succ badB _ j (by rw [List.length_map];exact hjl),HB.out,List.getElem_map,h];rfl
   have Hbad:Hid (badB l[j].bk=true->may (l.map Pt.bk)=1):=fun h=>may_bad (j:=j) (by rw [List.length_map];exact hjl) (by rw [List.getElem_map];exact h)
   generalize l[j]=o at hO Hnext Hbad
   obtain ⟨⟨f1,f2,f3⟩,oi,oa,on,oc,ob⟩:=o
   have c0:wr.cell? ⟨b,off+j*5,none⟩=some (.int .i64 f1):=hO.c0
   have c1:wr.cell? ⟨b,off+j*5+1,none⟩=some (.int .i64 f2):=hO.c1
   have c2:wr.cell? ⟨b,off+j*5+2,none⟩=some (.int .i64 f3):=hO.c2
   have c3:wr.cell? ⟨b,off+j*5+3,none⟩=some (.int .i64 oi):=hO.c3
   have c4:wr.cell? ⟨b,off+j*5+4,none⟩=some (.slice oa on oc):=hO.c4
   have Hn:Hid (ob.length=on):=hO.by_.n
   have Hbd:Hid (badB (Pt.bk ⟨(f1,f2,f3),oi,oa,on,oc,ob⟩)=decide (f1=1∨oi<0∨4096<=oi∨ob.length≠32)):=rfl
   clear hO hjl HB
   by_cases h1:f1=1
   ·have R:=fun ob=>HP.out 1 _ (Hbad.out (by rw [Hbd.out];exact decide_eq_true (Or.inl h1))) (Hb2.out ob)
    clear HP Hbad Hnext Hbd HPs
    go_wp2
    exact R _
   ·by_cases h2:oi<0
    ·have R:=fun ob=>HP.out 1 _ (Hbad.out (by rw [Hbd.out];exact decide_eq_true (Or.inr (Or.inl h2)))) (Hb2.out ob)
     clear HP Hbad Hnext Hbd HPs
     go_wp2
     exact R _
    ·by_cases h3:4096<=oi
     ·have R:=fun ob=>HP.out 1 _ (Hbad.out (by rw [Hbd.out];exact decide_eq_true (Or.inr (Or.inr (Or.inl h3))))) (Hb2.out ob)
      clear HP Hbad Hnext Hbd HPs
      go_wp2
      exact R _
     ·by_cases h4:(on:Int)=32
      ·have e1:(f1 == 1)=false:=beq_eq_false_iff_ne.2 h1
       have e4:((on:Int) != 32)=false:=by simp [h4]
       have HN:=Hnext.out (by rw [Hbd.out,decide_eq_false_iff_not];have:=Hn.out;omega)
       have HN2:Hid _:=HN
       clear HN
       clear HP Hbad Hnext Hbd HPs
       go_wp2
       go_roundw
       case rel=>exact ⟨j+1,by omega,by go_num,Hb2.out _,HN2.out⟩
       case measure=>simp [intOf];omega
      ·have R:=fun ob=>HP.out 1 _ (Hbad.out (by rw [Hbd.out];exact decide_eq_true (by have:=Hn.out;omega))) (Hb2.out ob)
       have e1:(f1 == 1)=false:=beq_eq_false_iff_ne.2 h1
       have e4:((on:Int) != 32)=true:=bne_iff_ne.2 h4
       clear HP Hbad Hnext Hbd HPs
       go_wp2
       exact R _
  ·obtain rfl:j=len:=by omega
   have hall:(l.map Pt.bk).any badB=false:=by have:=HB.out;rwa [List.take_of_length_le (by rw [List.length_map,Hl.out];exact Nat.le_refl _)] at this
   by_cases h5:(256:Int)<j
   ·have R:=HP.out 7 wr (by unfold may;rw [hall,List.length_map,Hl.out,if_neg (by simp),if_pos (by omega)]) Hb.out
    clear HP HB hall HPs
    go_wp2
    exact R
   ·have R:=HP.out 0 wr (by unfold may;rw [hall,List.length_map,Hl.out,if_neg (by simp),if_neg (by omega)]) Hb.out
    clear HP HB hall HPs
    go_wp2
    exact R
end
section
open Go.RowKit
theorem take_set (xs:List Int) (j:Nat) (h:j<32) (hx:xs.length=32):(xs.take j++List.replicate (32-j) (0:Int)).set j (xs.getD j 0)=xs.take (j+1)++List.replicate (32-(j+1)) 0:=by
 rw [List.set_append_right _ _ (by simp;omega),List.length_take,Nat.min_eq_left (by omega),Nat.sub_self,show 32-j=(32-(j+1))+1 by omega,List.replicate_succ,List.set_cons_zero,List.take_succ_eq_append_getElem (by omega),List.append_assoc]
 simp [List.getD_eq_getElem?_getD,show j<xs.length by omega]
theorem pow8 (m:Nat):(2:Int) ^ (m*8)=256 ^ m:=by
 rw [Nat.mul_comm,Int.pow_mul]
 rfl
theorem four_at (a b c d:Int):∀ K,K<4->(#[.int .i64 a,.int .i64 b,.int .i64 c,.int .i64 d]:Array Value)[K]?=some (.int .i64 ([a,b,c,d].getD K 0))
 | 0,_=>rfl
 | 1,_=>rfl
 | 2,_=>rfl
 | 3,_=>rfl
set_option maxHeartbeats 1000000 in
theorem bytes_c (a b c d:Int) (w:World):Calls Tryz.prog 106 #[.agg #[.int .i64 a,.int .i64 b,.int .i64 c,.int .i64 d]] w fun e w'=>∃ p,w.heap.size<=p∧e = .returned (.slice (some ⟨p,0,none⟩) 32 32)∧Row w' p (rowB [a,b,c,d])∧Below w.heap.size w w':=by
 obtain ⟨Post,hPost⟩:∃ Post:Ending->World->Prop,Post=fun e w'=>∃ p,w.heap.size<=p∧e = .returned (.slice (some ⟨p,0,none⟩) 32 32)∧Row w' p (rowB [a,b,c,d])∧Below w.heap.size w w':=⟨_,rfl⟩
 rw [<- hPost]
 have HP:Hid (∀ w' p,w.heap.size<=p->Row w' p (rowB [a,b,c,d])->Below w.heap.size w w'->Post (.returned (.slice (some ⟨p,0,none⟩) 32 32)) w'):=fun w' p h1 h2 h3=>by rw [hPost];exact ⟨p,h1,rfl,h2,h3⟩
 clear hPost
 go_enter Tryz.func106,Tryz.ntmps106
 go_wp2_with (at_make;refine wpList_make_bytes _ rfl _ _ rfl 32 32 rfl rfl rfl (by omega) ?_;intro w1 HR hb1)
 have Hbox:Hid (w1.heap[w.heap.size]?=some (.cells #[.int .i64 a,.int .i64 b,.int .i64 c,.int .i64 d] 184 (0,0))):=by
  show w1.heap[w.heap.size]?=_
  rw [hb1.block w.heap.size (by rw [World.size_alloc];omega)]
  exact heap_alloc_new w _
 have Hb1:Hid (Below w.heap.size w w1):=((Below.refl _ _).alloc (Nat.le_refl _) _).trans (hb1.mono (by rw [World.size_alloc];omega))
 obtain ⟨p,hp⟩:∃ p,p=(w.alloc (.cells #[.int .i64 a,.int .i64 b,.int .i64 c,.int .i64 d] 184)).heap.size:=⟨_,rfl⟩
 have Hp:Hid (p=w.heap.size+1):=by rw [hp,World.size_alloc];rfl
 rw [<- hp] at HR
 rw [<- Hp.out]
 clear hb1 hp
 go_loopw [8] (fun v wr=>∃ (j:Nat),j<=32∧v = .int .i64 (j:Int)∧Hid (Row wr p ((rowB [a,b,c,d]).take j++List.replicate (32-j) 0))∧Hid (wr.heap[w.heap.size]?=some (.cells #[.int .i64 a,.int .i64 b,.int .i64 c,.int .i64 d] 184 (0,0)))∧Hid (Below w.heap.size w wr)) (fun v _=>32-(intOf v).toNat)
 case atStart=>exact ⟨0,Nat.zero_le _,rfl,HR,Hbox,Hb1⟩
 case round =>
  clear HR Hbox Hb1
  obtain ⟨j,hj,rfl,HJ,Hx,Hb⟩:=hrel
  by_cases hlt:j<32
  ·have hlt':(j:Int)<32:=by omega
   obtain ⟨z0,c0⟩:∃ z0,wr.cell? ⟨p,j,none⟩=some (.int .u8 z0):=⟨_,HJ.out.cell j (by simp [rowB_len];omega)⟩
   have f0:=HJ.out.free j
   obtain ⟨x,Hxx⟩:∃ x:Int,Hid (x=[a,b,c,d].getD (j/8) 0):=⟨_,rfl⟩
   have cx:wr.cell? ⟨w.heap.size,j/8,none⟩=some (.int .i64 x):=by
    rw [cell_of_row wr w.heap.size (j/8) _ 184 (0,0) Hx.out,Hxx.out]
    exact four_at a b c d (j/8) (by omega)
   have Hv:Hid ((rowB [a,b,c,d]).getD j 0=x/2 ^ (j%8*8)%256):=by
    show (rowB [a,b,c,d]).getD j 0=x/2 ^ (j%8*8)%256
    rw [rowB_at _ hlt,Hxx.out,pow8]
    rfl
   have HJ2:Hid (Row (wr.setCell ⟨p,j,none⟩ (.int .u8 (x/2 ^ (j%8*8)%256))) p ((rowB [a,b,c,d]).take (j+1)++List.replicate (32-(j+1)) 0)):=by
    have:=HJ.out.set j (x/2 ^ (j%8*8)%256)
    rw [<- Hv.out,take_set _ j hlt (rowB_len _)] at this
    rw [<- Hv.out]
    exact this
   have Hx2:Hid ((wr.setCell ⟨p,j,none⟩ (.int .u8 (x/2 ^ (j%8*8)%256))).heap[w.heap.size]?=some (.cells #[.int .i64 a,.int .i64 b,.int .i64 c,.int .i64 d] 184 (0,0))):=(Below.heap_setCell wr ⟨p,j,none⟩ _ w.heap.size (by have:=Hp.out;simp only;omega)).trans Hx.out
   have Hb2:Hid (Below w.heap.size w (wr.setCell ⟨p,j,none⟩ (.int .u8 (x/2 ^ (j%8*8)%256)))):=Hb.out.setCell (p:=⟨p,j,none⟩) (by have:=Hp.out;simp only;omega) _
   clear HP Hv Hxx Hx Hb HJ
   go_wp2
   go_roundw
   case rel=>exact ⟨j+1,by omega,by go_num,HJ2,Hx2,Hb2⟩
   case measure=>simp [intOf];omega
  ·obtain rfl:j=32:=by omega
   have R:=HP.out wr p (by have:=Hp.out;omega) (by have:=HJ.out;rwa [Nat.sub_self,List.replicate_zero,List.append_nil,List.take_of_length_le (by rw [rowB_len];exact Nat.le_refl _)] at this) Hb.out
   clear HP Hx Hb HJ
   go_wp2
   exact R
end
section
open Go.RowKit
theorem jwp_region_tail {P:Program} {id:Nat} {Q:Exit->Act->World->Prop} {a:Act} {w:World} {l:List Oper} (n:Nat) (hm:P.follows .mixedOrders=true) (hB:Region.lexTailB .any l.toArray n=true)
  (h:wpStill P l.toArray (w.drewN 1) (fun a'=>wpList P l.toArray Q (l.drop n) a' (w.drewN 1)) (l.take n) a):(Code.region id l.toArray true).wp P Q a w :=
 wp_region_still_tail n hm hB h
def acc (bs:List Int) (j k:Nat):Int:=sg (part bs k (min 8 (j-8*k)))
def rowV (f:Nat->Int):Array Value := #[.int .i64 (f 0),.int .i64 (f 1),.int .i64 (f 2),.int .i64 (f 3)]
theorem rowV_at (f:Nat->Int):∀ K,K<4->(rowV f)[K]?=some (.int .i64 (f K))
 | 0,_=>rfl
 | 1,_=>rfl
 | 2,_=>rfl
 | 3,_=>rfl
theorem rowV_set (f g:Nat->Int):∀ K,K<4->(∀ k,k≠K->g k=f k)->(rowV f).setIfInBounds K (.int .i64 (g K))=rowV g
 | 0,_,h=>by unfold rowV;rw [h 1 (by decide),h 2 (by decide),h 3 (by decide)];rfl
 | 1,_,h=>by unfold rowV;rw [h 0 (by decide),h 2 (by decide),h 3 (by decide)];rfl
 | 2,_,h=>by unfold rowV;rw [h 0 (by decide),h 1 (by decide),h 3 (by decide)];rfl
 | 3,_,h=>by unfold rowV;rw [h 0 (by decide),h 1 (by decide),h 2 (by decide)];rfl
theorem acc_next (bs:List Int) {j k:Nat} (h:k≠j/8):acc bs (j+1) k=acc bs j k:=by
 unfold acc
 by_cases hk:k<j/8
 ·rw [Nat.min_eq_left (show 8<=j+1-8*k by omega),Nat.min_eq_left (show 8<=j-8*k by omega)]
 ·rw [show j+1-8*k=0 by omega,show j-8*k=0 by omega]
theorem acc_at (bs:List Int) (j:Nat):acc bs j (j/8)=sg (part bs (j/8) (j%8)):=by
 unfold acc
 rw [show j-8*(j/8)=j%8 by omega,Nat.min_eq_right (by omega)]
theorem acc_then (bs:List Int) (j:Nat):acc bs (j+1) (j/8)=sg (part bs (j/8) (j%8)+bs.getD j 0*256 ^ (j%8)):=by
 unfold acc
 rw [show j+1-8*(j/8)=j%8+1 by omega,Nat.min_eq_right (by omega),part,show 8*(j/8)+j%8=j by omega]
theorem wrap_sg (n:Int):IntKind.i64.wrap n=sg n:=by rw [IntKind.wrap_i64];unfold sg;omega
theorem ofInt_sg (n:Int):(BitVec.ofInt 64 (sg n)).toNat=(n%18446744073709551616).toNat:=by
 rw [BitVec.toNat_ofInt]
 show (sg n%((18446744073709551616:Nat):Int)).toNat=_
 unfold sg
 congr 1
 omega
theorem or_i64 (Y Z i:Nat) (hy:Y<2 ^ i) (hz:Z<=255) (hi:i<=56):bits .or .i64 (Y:Int) (sg ((Z:Int)*2 ^ i))=sg ((Y:Int)+(Z:Int)*2 ^ i):=by
 have h56:2 ^ i<=2 ^ 56:=Nat.pow_le_pow_right (by decide) hi
 have hz2:Z*2 ^ i<=255*2 ^ 56:=Nat.mul_le_mul hz h56
 have e:(Z:Int)*2 ^ i=((Z*2 ^ i:Nat):Int):=by rw [Int.natCast_mul,Int.natCast_pow];rfl
 show IntKind.i64.wrap (((BitVec.ofInt 64 (Y:Int) ||| BitVec.ofInt 64 (sg ((Z:Int)*2 ^ i))).toNat:Nat):Int)=_
 rw [BitVec.toNat_or,ofInt_sg,e]
 have e1:(BitVec.ofInt 64 (Y:Int)).toNat=Y:=by
  rw [BitVec.ofInt_natCast,BitVec.toNat_ofNat]
  exact Nat.mod_eq_of_lt (by omega)
 have e2:(((Z*2 ^ i:Nat):Int)%18446744073709551616).toNat=Z*2 ^ i:=by
  generalize Z*2 ^ i=m at *
  omega
 rw [e1,e2,Nat.or_comm,<- Nat.shiftLeft_eq,<- Nat.shiftLeft_add_eq_or_of_lt hy,wrap_sg,Nat.shiftLeft_eq]
 congr 1
 omega
set_option maxHeartbeats 1000000 in
theorem rowOf_c (a:Option Addr) (c:Nat) (bs:List Int) (w:World) (hB:Bytes w a 32 bs):Calls Tryz.prog 122 #[.slice a 32 c] w fun e w'=>e = .returned (.agg (rowV fun k=>sg (part bs k 8)))∧Below w.heap.size w w':=by
 obtain ⟨Post,hPost⟩:∃ Post:Ending->World->Prop,Post=fun e w'=>e = .returned (.agg (rowV fun k=>sg (part bs k 8)))∧Below w.heap.size w w':=⟨_,rfl⟩
 rw [<- hPost]
 have HP:Hid (∀ w',Below w.heap.size w w'->Post (.returned (.agg (rowV fun k=>sg (part bs k 8)))) w'):=fun w' h1=>by rw [hPost];exact ⟨rfl,h1⟩
 clear hPost
 have HB:Hid (Bytes w a 32 bs):=hB
 clear hB
 go_enter Tryz.func122,Tryz.ntmps122
 go_wp2
 have H0:Hid (((w.alloc (.cells #[.int .i64 0,.int .i64 0,.int .i64 0,.int .i64 0] 184)).alloc (.cells #[.int .i64 0,.int .i64 0,.int .i64 0,.int .i64 0] 184)).heap[w.heap.size]?=some (.cells #[.int .i64 0,.int .i64 0,.int .i64 0,.int .i64 0] 184 (0,0))):=by
  show _=_
  rw [heap_alloc_old _ _ (by rw [World.size_alloc];omega)]
  exact heap_alloc_new w _
 have H1:Hid (((w.alloc (.cells #[.int .i64 0,.int .i64 0,.int .i64 0,.int .i64 0] 184)).alloc (.cells #[.int .i64 0,.int .i64 0,.int .i64 0,.int .i64 0] 184)).heap[w.heap.size+1]?=some (.cells (rowV (acc bs 0)) 184 (0,0))):=heap_alloc2_new w _ _
 have Hb0:Hid (Below w.heap.size w ((w.alloc (.cells #[.int .i64 0,.int .i64 0,.int .i64 0,.int .i64 0] 184)).alloc (.cells #[.int .i64 0,.int .i64 0,.int .i64 0,.int .i64 0] 184))):=((Below.refl _ _).alloc (Nat.le_refl _) _).alloc (by rw [World.size_alloc];omega) _
 obtain ⟨q,hq⟩:∃ q,q=w.heap.size+1:=⟨_,rfl⟩
 have Hq:Hid (q=w.heap.size+1):=hq
 rw [<- hq] at H1 ⊢
 clear hq
 generalize (w.alloc (.cells #[.int .i64 0,.int .i64 0,.int .i64 0,.int .i64 0] 184)).alloc (.cells #[.int .i64 0,.int .i64 0,.int .i64 0,.int .i64 0] 184)=w1 at *
 go_loopw [8] (fun v wr=>∃ (j:Nat),j<=32∧v = .int .i64 (j:Int)∧Hid (wr.heap[w.heap.size]?=some (.cells #[.int .i64 0,.int .i64 0,.int .i64 0,.int .i64 0] 184 (0,0)))∧Hid (wr.heap[q]?=some (.cells (rowV (acc bs j)) 184 (0,0)))∧Hid (Below w.heap.size w wr)) (fun v _=>32-(intOf v).toNat)
 case atStart=>exact ⟨0,Nat.zero_le _,rfl,H0,H1,Hb0⟩
 case round =>
  clear H0 H1 Hb0
  obtain ⟨j,hj,rfl,H0,H1,Hb⟩:=hrel
  by_cases hlt:j<32
  ·have hlt':(j:Int)<32:=by omega
   obtain ⟨b,off,z,rfl,hc,z0,z1,hk,hz⟩:=(HB.out.later Hb.out).get j hlt
   have Hz:Hid (bs.getD j 0=z):=by
    show bs.getD j 0=z
    rw [hz,List.getD_eq_getElem?_getD,List.getElem?_eq_getElem hk]
    rfl
   clear hz hk
   obtain ⟨K,HK⟩:∃ K,Hid (K=j/8):=⟨_,rfl⟩
   obtain ⟨M,HM⟩:∃ M,Hid (M=j%8):=⟨_,rfl⟩
   have hK4:K<4:=by have:=HK.out;omega
   have hM7:M<=7:=by have:=HM.out;omega
   have hpb:=part_bd HB.out.fit K M
   obtain ⟨Y,HY⟩:∃ Y:Nat,Hid ((Y:Int)=part bs K M):=⟨(part bs K M).toNat,show _=_ by omega⟩
   obtain ⟨Z,rfl⟩:=Int.eq_ofNat_of_zero_le z0
   have HYlt:Hid (Y<2 ^ (M*8)):=by
    show Y<2 ^ (M*8)
    have h1:=hpb.2
    rw [<- HY.out,<- pow8] at h1
    exact_mod_cast h1
   have HY63:Hid (sg (Y:Int)=Y):=by
    show sg (Y:Int)=Y
    have h1:2 ^ (M*8)<=2 ^ 56:=Nat.pow_le_pow_right (by decide) (by omega)
    have h2:=HYlt.out
    unfold sg
    omega
   have Hy:Hid (acc bs j K=Y):=by show _=_;rw [HK.out,acc_at,<- HK.out,<- HM.out,<- HY.out];exact HY63.out
   have cy:wr.cell? ⟨q,K,none⟩=some (.int .i64 (Y:Int)):=by
    rw [cell_of_row wr q K _ 184 (0,0) H1.out,<- Hy.out]
    exact rowV_at _ _ hK4
   have fy:wr.frozen? ⟨q,K,none⟩=false:=frozen_of_row wr q _ _ 184 H1.out
   obtain ⟨T,HT⟩:∃ T,Hid (T=M*8):=⟨_,rfl⟩
   have hT:T<=56:=by have:=HT.out;omega
   have hm8:IntKind.i64.wrap ((M:Int)*8)=(T:Int):=by have:=HT.out;rw [IntKind.wrap_i64];omega
   have hz8:IntKind.i64.wrap (Z:Int)=(Z:Int):=by rw [IntKind.wrap_i64];omega
   obtain ⟨yy,Hyy⟩:∃ yy:Int,Hid (yy=sg ((Z:Int)*2 ^ T)):=⟨_,rfl⟩
   have hsh:IntKind.i64.wrap ((Z:Int)*2 ^ T)=yy:=by rw [wrap_sg];exact Hyy.out.symm
   obtain ⟨zz,Hzz⟩:∃ zz:Int,Hid (zz=acc bs (j+1) K):=⟨_,rfl⟩
   have hor:bits .or .i64 (Y:Int) yy=zz:=by
    rw [Hyy.out,HT.out,or_i64 Y Z (M*8) HYlt.out (by omega) (by omega),Hzz.out,HK.out,acc_then,<- HK.out,<- HM.out,Hz.out,<- HY.out,pow8]
   have H12:Hid ((wr.setCell ⟨q,K,none⟩ (.int .i64 zz)).heap[q]?=some (.cells (rowV (acc bs (j+1))) 184 (0,0))):=by
    show _=_
    rw [heap_setCell_same wr q K _ 184 _ H1.out,Hzz.out,rowV_set (acc bs j) (acc bs (j+1)) K hK4 (fun k hk=>acc_next bs (by rw [<- HK.out];exact hk))]
   have H02:Hid ((wr.setCell ⟨q,K,none⟩ (.int .i64 zz)).heap[w.heap.size]?=some (.cells #[.int .i64 0,.int .i64 0,.int .i64 0,.int .i64 0] 184 (0,0))):=(Below.heap_setCell wr ⟨q,K,none⟩ _ w.heap.size (by have:=Hq.out;simp only;omega)).trans H0.out
   have Hb2:Hid (Below w.heap.size w (wr.setCell ⟨q,K,none⟩ (.int .i64 zz))):=Hb.out.setCell (p:=⟨q,K,none⟩) (by have:=Hq.out;simp only;omega) _
   have hq:IntKind.i64.wrap ((j:Int)/8)=(K:Int):=by have:=HK.out;rw [IntKind.wrap_i64];omega
   have hr:(j:Int).tmod 8=(M:Int):=by have:=HM.out;rw [Int.tmod_eq_emod_of_nonneg (by omega)];omega
   have hK4':(K:Int)<4:=by omega
   clear HP hpb HY HYlt HY63 Hy Hyy Hzz H0 H1 Hb Hz HB
   go_wp2_with fail
   have cy1:(wr.drewN 1).cell? ⟨q,K,none⟩=some (.int .i64 (Y:Int)):=cy
   have fy1:(wr.drewN 1).frozen? ⟨q,K,none⟩=false:=fy
   refine jwp_region_tail 11 (by kernel_rfl) (by kernel_rfl) ?_
   simp only [List.take_succ_cons,List.take_zero,List.drop_succ_cons,List.drop_zero]
   repeat still_step
   refine wpStill_nil ?_
   have H03:Hid (((wr.drewN 1).setCell ⟨q,K,none⟩ (.int .i64 zz)).heap[w.heap.size]?=some (.cells #[.int .i64 0,.int .i64 0,.int .i64 0,.int .i64 0] 184 (0,0))):=H02.out
   have H13:Hid (((wr.drewN 1).setCell ⟨q,K,none⟩ (.int .i64 zz)).heap[q]?=some (.cells (rowV (acc bs (j+1))) 184 (0,0))):=H12.out
   have Hb3:Hid (Below w.heap.size w ((wr.drewN 1).setCell ⟨q,K,none⟩ (.int .i64 zz))):=⟨Hb2.out.os,Hb2.out.tape,Hb2.out.output,Hb2.out.size,Hb2.out.block⟩
   go_wp2
   go_roundw
   case rel=>exact ⟨j+1,by omega,by go_num,H03,H13,Hb3⟩
   case measure=>simp [intOf];omega
  ·obtain rfl:j=32:=by omega
   have e:acc bs 32=fun k=>sg (part bs k (min 8 (32-8*k))):=rfl
   have hc:∀ k,k<4->wr.cell? ⟨q,k,none⟩=some (.int .i64 (sg (part bs k 8))):=fun k hk=>by
    rw [cell_of_row wr q k _ 184 (0,0) H1.out,rowV_at _ k hk,e]
    simp only []
    rw [Nat.min_eq_left (by omega)]
   have c0:=hc 0 (by decide)
   have c1:=hc 1 (by decide)
   have c2:=hc 2 (by decide)
   have c3:=hc 3 (by decide)
   have Hw:Hid (∀ v0 v1 v2 v3,((((wr.setCell ⟨w.heap.size,0,none⟩ v0).setCell ⟨w.heap.size,1,none⟩ v1).setCell ⟨w.heap.size,2,none⟩ v2).setCell ⟨w.heap.size,3,none⟩ v3).heap[w.heap.size]?=some (.cells #[v0,v1,v2,v3] 184 (0,0))):=fun v0 v1 v2 v3=>by
    rw [heap_setCell_same _ w.heap.size 3 _ 184 _ (heap_setCell_same _ w.heap.size 2 _ 184 _ (heap_setCell_same _ w.heap.size 1 _ 184 _ (heap_setCell_same wr w.heap.size 0 _ 184 _ H0.out)))]
    rfl
   have Hbw:Hid (∀ v0 v1 v2 v3,Below w.heap.size w ((((wr.setCell ⟨w.heap.size,0,none⟩ v0).setCell ⟨w.heap.size,1,none⟩ v1).setCell ⟨w.heap.size,2,none⟩ v2).setCell ⟨w.heap.size,3,none⟩ v3)):=fun v0 v1 v2 v3=>(((Hb.out.setCell (p:=⟨w.heap.size,0,none⟩) (Nat.le_refl _) _).setCell (p:=⟨w.heap.size,1,none⟩) (Nat.le_refl _) _).setCell (p:=⟨w.heap.size,2,none⟩) (Nat.le_refl _) _).setCell (p:=⟨w.heap.size,3,none⟩) (Nat.le_refl _) _
   have f0:wr.frozen? ⟨w.heap.size,0,none⟩=false:=frozen_of_row wr _ _ _ 184 H0.out
   have f1:wr.frozen? ⟨w.heap.size,1,none⟩=false:=frozen_of_row wr _ _ _ 184 H0.out
   have f2:wr.frozen? ⟨w.heap.size,2,none⟩=false:=frozen_of_row wr _ _ _ 184 H0.out
   have f3:wr.frozen? ⟨w.heap.size,3,none⟩=false:=frozen_of_row wr _ _ _ 184 H0.out
   have hd:∀ k,k<4->wr.cell? ⟨w.heap.size,k,none⟩=some (.int .i64 0):=fun k hk=>by
    rw [cell_of_row wr w.heap.size k _ 184 (0,0) H0.out,four_at 0 0 0 0 k hk]
    match k,hk with
    | 0,_=>rfl
    | 1,_=>rfl
    | 2,_=>rfl
    | 3,_=>rfl
   have d0:=hd 0 (by decide)
   have d1:=hd 1 (by decide)
   have d2:=hd 2 (by decide)
   have d3:=hd 3 (by decide)
   have HP2:Hid (∀ w',Below w.heap.size w w'->Post (.returned (.agg #[.int .i64 (sg (part bs 0 8)),.int .i64 (sg (part bs 1 8)),.int .i64 (sg (part bs 2 8)),.int .i64 (sg (part bs 3 8))])) w'):=HP.out
   clear hc hd e H0 H1 Hb HB HP
   obtain ⟨x0,hx0⟩:∃ x,x=sg (part bs 0 8):=⟨_,rfl⟩
   obtain ⟨x1,hx1⟩:∃ x,x=sg (part bs 1 8):=⟨_,rfl⟩
   obtain ⟨x2,hx2⟩:∃ x,x=sg (part bs 2 8):=⟨_,rfl⟩
   obtain ⟨x3,hx3⟩:∃ x,x=sg (part bs 3 8):=⟨_,rfl⟩
   rw [<- hx0] at c0 HP2
   rw [<- hx1] at c1 HP2
   rw [<- hx2] at c2 HP2
   rw [<- hx3] at c3 HP2
   clear hx0 hx1 hx2 hx3
   go_wp2
   exact bodyPost_ret (results_cell_row rfl _ _ w.heap.size 184 _ (0,0) _ rfl (Hw.out _ _ _ _) Tryz.underlying184 rfl (by kernel_rfl)) rfl (HP2.out _ (Hbw.out _ _ _ _))
end
section
open Go.RowKit
def StepSay (l:List Bk) (w:World) (e:Ending) (w':World):Prop:=Below w.heap.size w w'∧∃ a n c ps,e = .returned (.slice a n c)∧ps.length=n∧n<=1000∧Puts w' a ps∧ps.map Pt.bk=l
theorem I64.le {x:Int} (h:0<=x∧x<=1000000):I64 x:=⟨by omega,by omega⟩
theorem puts_one {w:World} {q:Nat} {f:Fl} {i:Int} {a:Option Addr} {n c:Nat} {bs:List Int} (hq:w.heap[q]?=some (.cells #[.int .i64 f.1,.int .i64 f.2.1,.int .i64 f.2.2,.int .i64 i,.slice a n c] 181 (0,0)))
  (hB:Bytes w a n bs) (hn:a=none->c=0) (hc:n<=c) (hbd:I64 i∧I64 f.1∧I64 f.2.1∧I64 f.2.2) (hs:n<=reachBytes):Puts w (some ⟨q,0,none⟩) [⟨f,i,a,n,c,bs⟩]:=fun k hk=>by
 obtain rfl:k=0:=by simpa using hk
 refine ⟨q,0,rfl,⟨?_,?_,?_,?_,?_,hB,hn,hc,hbd,hs⟩⟩
 ·rw [cell_of_row w q _ _ 181 (0,0) hq];rfl
 ·rw [cell_of_row w q _ _ 181 (0,0) hq];rfl
 ·rw [cell_of_row w q _ _ 181 (0,0) hq];rfl
 ·rw [cell_of_row w q _ _ 181 (0,0) hq];rfl
 ·rw [cell_of_row w q _ _ 181 (0,0) hq];rfl
set_option maxHeartbeats 400000 in
theorem jblocks_c (a:Option Addr) (n c:Nat) (ps:List Pt) (w:World) (hn:n<=1000) (hl:ps.length=n) (hP:Puts w a ps):Calls Tryz.prog 79 #[.agg #[.slice a n c]] w (StepSay (ps.map Pt.bk) w):=by
 obtain ⟨Post,hPost⟩:∃ Post,Post=StepSay (ps.map Pt.bk) w:=⟨_,rfl⟩
 rw [<- hPost]
 have R:∀ ob,Post (.returned (.slice a n c)) (w.alloc ob):=fun ob=>by
  have hb:Below w.heap.size w (w.alloc ob):=(Below.refl _ _).alloc (Nat.le_refl _) _
  rw [hPost]
  exact ⟨hb,a,n,c,ps,rfl,hl,hn,hP.on hb,rfl⟩
 clear hPost hP hl hn
 go_enter Tryz.func79,Tryz.ntmps79
 go_wp2
 exact R _
set_option maxHeartbeats 400000 in
theorem end_c (a:Option Addr) (n c:Nat) (w:World):Calls Tryz.prog 80 #[.agg #[.slice a n c]] w (StepSay [endK] w):=by
 obtain ⟨Post,hPost⟩:∃ Post,Post=StepSay [endK] w:=⟨_,rfl⟩
 rw [<- hPost]
 have HP:Hid (∀ e w',StepSay [endK] w e w'->Post e w'):=fun e w' h=>by rw [hPost];exact h
 clear hPost
 have hbx:Below w.heap.size w (w.alloc (.cells #[.slice a n c] 152)):=(Below.refl _ _).alloc (Nat.le_refl _) _
 have Hbx:Hid (Below w.heap.size w (w.alloc (.cells #[.slice a n c] 152))):=hbx
 clear hbx
 go_enter Tryz.func80,Tryz.ntmps80
 go_wp2_with fail
 generalize w.alloc (.cells #[.slice a n c] 152)=w1 at *
 refine (bytes_c 0 0 0 0 w1).mono ?_
 rintro _ w2 ⟨p,hp,rfl,hR,hb2⟩
 have Hb2:Hid (Below w.heap.size w w2):=Hbx.out.trans (hb2.mono Hbx.out.size)
 have HR:Hid (Row w2 p noughts):=by rw [<- rowB_noughts];exact hR
 clear hR hb2 hp
 go_wp2_with fail
 refine (own_c 0 (some ⟨p,0,none⟩) 32 32 w2).mono ?_
 rintro _ w3 ⟨rfl,hb3⟩
 have Hb3:Hid (Below w.heap.size w w3):=Hb2.out.trans (hb3.mono Hb2.out.size)
 have HR3:Hid (Row w3 p noughts):=HR.out.below hb3 HR.out.lt
 clear hb3 Hb2 HR Hbx
 have R:Post (.returned (.slice (some ⟨w3.heap.size,0,none⟩) 1 1)) (w3.alloc (.cells #[.int .i64 1,.int .i64 0,.int .i64 0,.int .i64 0,.slice (some ⟨p,0,none⟩) 32 32] 181)):=by
  have hb:Below w3.heap.size w3 (w3.alloc (.cells #[.int .i64 1,.int .i64 0,.int .i64 0,.int .i64 0,.slice (some ⟨p,0,none⟩) 32 32] 181)):=(Below.refl _ _).alloc (Nat.le_refl _) _
  refine HP.out _ _ ⟨Hb3.out.trans (hb.mono Hb3.out.size),_,1,1,[⟨J0,0,some ⟨p,0,none⟩,32,32,noughts⟩],rfl,rfl,by decide,?_,rfl⟩
  exact puts_one (heap_alloc_new w3 _) ((HR3.out.below hb HR3.out.lt).bytes (by decide) 32 rfl) (fun h=>by cases h) (by decide) ⟨I64.le (by decide),I64.le (by decide),I64.le (by decide),I64.le (by decide)⟩ (by decide)
 clear HP Hb3 HR3
 go_wp2
 exact R
end
end Go.Proofs.YtlllmmceoeihkaaGreat
