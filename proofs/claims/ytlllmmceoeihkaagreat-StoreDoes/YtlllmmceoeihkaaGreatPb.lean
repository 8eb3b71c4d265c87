/-
  The program's store in memory; Region; what a slot has; the bytes of edits; Load.
  The program's store: a part's changes in memory; has.
  The program's store: edits that come in; parts in memory; edits by regions (plain).
  The program's store: appends of one struct; what a part's row needs on the way.
  The program's store: parted.
  The program's store: the plans of a Save, as closures.
-/
import Derived.Test.YtlllmmceoeihkaaGreatPh
import Derived.Test.YtlllmmceoeihkaaGreatGfill
import Derived.Test.YtlllmmceoeihkaaGreatJJfill
import Derived.Test.YtlllmmceoeihkaaGreatSp
import Derived.Test.YtlllmmceoeihkaaGreatKEnc
import Derived.Deep.DeepCutAuto
import Derived.Deep.AppendLies
import Derived.Test.YtlllmmceoeihkaaGreatPl2
set_option maxRecDepth 20000
namespace Go.Proofs.YtlllmmceoeihkaaGreat
open Go.RowKit
theorem Bytes.toK {w:World} {a:Option Addr} {n:Nat} {xs:List Int} (h:Bytes w a n xs):K.Bytes w a n xs:=⟨h.n,h.cells,h.fit⟩
structure SO (F:Nat->Prop) (w:World) (s d m n:Nat) (S:St) (V:List Bk) (R:Rf):Prop where
 hd:∃ j,w.heap[s]?=some (.cells #[.pointer (some ⟨d,0,none⟩),.pointer (some ⟨j,0,none⟩),.map (some m)] 92 (0,0))∧JPx F w j d S V
 mp:RMap w m n R
 fs:¬ F s
 fm:¬ F m
 lt:∀ k,F k->k<w.heap.size
theorem SO.keep {F:Nat->Prop} {w w':World} {s d m n:Nat} {S:St} {V:List Bk} {R:Rf} (h:SO F w s d m n S V R) (hF:∀ k,F k->w'.heap[k]?=w.heap[k]?) (hs:w'.heap[s]?=w.heap[s]?) (hm:w'.heap[m]?=w.heap[m]?) (hz:w.heap.size<=w'.heap.size):SO F w' s d m n S V R:=by
 obtain ⟨j,h1,h2⟩:=h.hd
 exact ⟨⟨j,hs.trans h1,jspec.jp_keep h2 hF⟩,h.mp.same hm,h.fs,h.fm,fun k hk=>Nat.lt_of_lt_of_le (h.lt k hk) hz⟩
theorem SO.lts {F:Nat->Prop} {w:World} {s d m n:Nat} {S:St} {V:List Bk} {R:Rf} (h:SO F w s d m n S V R):s<w.heap.size∧m<w.heap.size:=by
 obtain ⟨j,h1,_⟩:=h.hd
 exact ⟨(Array.getElem?_eq_some_iff.1 h1).1,h.mp.lt⟩
theorem SO.on {F:Nat->Prop} {w w':World} {s d m n:Nat} {S:St} {V:List Bk} {R:Rf} (h:SO F w s d m n S V R) (hb:Below w.heap.size w w'):SO F w' s d m n S V R :=
 h.keep (fun k hk=>hb.block k (h.lt k hk)) (hb.block s h.lts.1) (hb.block m h.lts.2) hb.size
theorem Reg.sees {V:List Bk} {L:List Bk} {X Y:Int} {d:List (List Int)} (h:Reg V X Y d) (hs:Shows L V):Reg L X Y d :=
 h.other (fun i=>by unfold blk;rw [hs.1 (2,X,Y) (i:Int) (by simp)])
def RegSay (S:St) (V:List Bk) (E:Ed) (X Y:Int) (w:World) (e:Ending) (w':World):Prop:=Below w.heap.size w w' ∧
 ((S.out=true∧e = .returned (.tuple #[.pointer none,.int .i64 8])) ∨
  (S.out=false∧∃ g F sp,e = .returned (.tuple #[.pointer (some ⟨g,0,none⟩),.int .i64 0])∧RGs F w' g ⟨X,Y,sp,regD E X Y⟩∧OnD V ⟨X,Y,sp,regD E X Y⟩∧∀ k,F k->w.heap.size<=k))
set_option maxHeartbeats 1000000 in
theorem region_c {F:Nat->Prop} {w:World} {s d m n:Nat} {S:St} {V:List Bk} {R:Rf} (h:SO F w s d m n S V R) {E:Ed} (hE:Has V E) (X Y:Int) (hX:I64 X) (hY:I64 Y) :
  Calls Tryz.prog 33 #[.pointer (some ⟨s,0,none⟩),.int .i64 X,.int .i64 Y] w (RegSay S V E X Y w):=by
 obtain ⟨j,hh,hJ⟩:=h.hd
 have hc:w.cell? ⟨s,0,none⟩=some (.pointer (some ⟨d,0,none⟩)):=by rw [cell_of_row w s 0 _ 92 (0,0) hh];rfl
 obtain ⟨hO,sp,hG,hon,hr⟩:=((hE.reg X Y).sees hJ.2.1.2).open2
 have honV:OnD V ⟨X,Y,sp,regD E X Y⟩:=hon.other (fun i=>by show blk V (2,X,Y) i=_;unfold blk;rw [<- hJ.2.1.2.1 (2,X,Y) (i:Int) (by simp)];rfl)
 have ho:=open_c F d S X Y w hX hY hJ.1 h.lt
 obtain ⟨Post,hPost⟩:∃ Post:Ending->World->Prop,Post=RegSay S V E X Y w:=⟨_,rfl⟩
 rw [<- hPost]
 have H8:Hid (∀ w',S.out=true->Below w.heap.size w w'->Post (.returned (.tuple #[.pointer none,.int .i64 8])) w'):=fun w' h1 h2=>by rw [hPost];exact ⟨h2,.inl ⟨h1,rfl⟩⟩
 have H0:Hid (∀ w' g F',S.out=false->RGs F' w' g (rhoS S.l X Y)->(∀ k,F' k->w.heap.size<=k)->Below w.heap.size w w'->Post (.returned (.tuple #[.pointer (some ⟨g,0,none⟩),.int .i64 0])) w'):=fun w' g F' h1 h2 h3 h4=>by rw [hPost];rw [hr] at h2;exact ⟨h4,.inr ⟨h1,g,F',sp,rfl,h2,honV,h3⟩⟩
 have HO:Hid (HdOk (headS S.l X Y)):=hO
 clear hPost h hE hJ hh hO hG hr hon honV
 go_enter Tryz.func33,Tryz.ntmps33
 go_wp2_with (go_at_call 61;refine ho.mono ?_;clear ho;rintro _ w1 ⟨hb,⟨h1,rfl⟩|⟨h1,h2,rfl⟩|⟨h1,h2,g,F',rfl,h3,h4⟩⟩)
 ·exact H8.out w1 h1 hb
 ·exact absurd HO.out h2
 ·exact H0.out w1 g F' h1 h3 h4 hb
set_option maxHeartbeats 1000000 in
theorem clone2_c (a:Option Addr) (n c:Nat) (bs:List Int) (w:World) (hB:Bytes w a n bs) (hnil:a=none->c=0) (hn:n<=1000000000) :
  Calls Tryz.prog 67 #[.slice a n c] w fun e w'=>Below w.heap.size w w'∧∃ a' c',e = .returned (.slice a' n c')∧Bytes w' a' n bs∧n<=c':=by
 obtain ⟨Post,hPost⟩:∃ Post:Ending->World->Prop,Post=fun e w'=>Below w.heap.size w w'∧∃ a' c',e = .returned (.slice a' n c')∧Bytes w' a' n bs∧n<=c':=⟨_,rfl⟩
 rw [<- hPost]
 have HP:Hid (∀ w' a' c',Bytes w' a' n bs->n<=c'->Below w.heap.size w w'->Post (.returned (.slice a' n c')) w'):=fun w' a' c' h1 h3 h2=>by rw [hPost];exact ⟨h2,_,_,rfl,h1,h3⟩
 clear hPost
 cases a with
 | none =>
   obtain rfl:=hnil rfl
   have h0:n=0:=by
    rcases hB.cells with e | ⟨b,off,e,_⟩
    ·rw [<- hB.n,e];rfl
    ·cases e
   subst h0
   have R:=HP.out w none 0 hB (Nat.le_refl _) (Below.refl _ _)
   clear HP hB hnil
   have he:(binOp .eql 61 (.slice none 0 0) (.slice none 0 0)).run Tryz.prog w = .ok (.bool true) w:=by kernel_rfl
   go_enter Tryz.func67,Tryz.ntmps67
   go_wp2
   exact R
 | some ad =>
   have HB:Hid (Bytes w (some ad) n bs):=hB
   clear hB hnil
   have he:(binOp .eql 61 (.slice (some ad) n c) (.slice none 0 0)).run Tryz.prog w = .ok (.bool false) w:=by kernel_rfl
   go_enter Tryz.func67,Tryz.ntmps67
   have hown:Own (w.alloc (.cells #[] 5)) w.heap.size (some ⟨w.heap.size,0,none⟩) 0 []:=⟨by simp,.inr ⟨w.heap.size,0,#[],rfl,Nat.le_refl _,heap_alloc_new w _,Nat.le_refl _,by simp,rfl,rfl⟩⟩
   have hb1:Below w.heap.size w (w.alloc (.cells #[] 5)):=(Below.refl _ _).alloc (Nat.le_refl _) _
   have hB1:=HB.out.later hb1
   have Hb1:Hid (Below w.heap.size w (w.alloc (.cells #[] 5))):=hb1
   have HB1:Hid (Bytes (w.alloc (.cells #[] 5)) (some ad) n bs):=hB1
   have Hown:Hid (Own (w.alloc (.cells #[] 5)) w.heap.size (some ⟨w.heap.size,0,none⟩) 0 []):=hown
   have Hsz:Hid (w.heap.size<=(w.alloc (.cells #[] 5)).heap.size):=by show _<=_;simp
   clear hown hb1 hB1 HB
   go_wp2_with (at_builtin;refine wpList_append_bytes rfl _ _ rfl w.heap.size (some ⟨w.heap.size,0,none⟩) 0 0 [] rfl rfl Hown.out (some ad) n c bs rfl HB1.out (fun h=>by cases h) (by omega) w Hb1.out Hsz.out ?_;intro a' c' w' Ho Hb _)
   refine HP.out _ _ _ ?_ ?_ Hb
   ·exact Ho.out.bytes HB1.out.fit _ HB1.out.n
   ·have hn2:=HB1.out.n
    rcases Ho.out.parts with ⟨_,_,e⟩|⟨_,_,_,_,_,_,h⟩
    ·simp only [List.nil_append] at e
     rw [e] at hn2
     simp at hn2
     omega
    ·simp only [List.nil_append] at h
     omega
set_option maxHeartbeats 1000000 in
theorem get2_c (g:Nat) (x z:Int) (l:List Sm) (i:Int) (w:World) (H:RB w g x z l) (hD:∀ s∈l,Bytes w s.a s.b.length s.b∧(s.a=none->s.c=0)∧s.b.length<=1000000000) :
  Calls Tryz.prog 36 #[.pointer (some ⟨g,0,none⟩),.int .i64 i] w fun e w'=>Below w.heap.size w w'∧∃ a c,e = .returned (.slice a (if 0<=i∧i<16 then (l.map Sm.b).getD i.toNat [] else []).length c)∧Bytes w' a (if 0<=i∧i<16 then (l.map Sm.b).getD i.toNat [] else []).length (if 0<=i∧i<16 then (l.map Sm.b).getD i.toNat [] else [])∧(if 0<=i∧i<16 then (l.map Sm.b).getD i.toNat [] else []).length<=c:=by
 by_cases hi:0<=i∧i<16
 ·rw [if_pos hi]
  have hn:=H.n
  obtain ⟨I,rfl⟩:=Int.eq_ofNat_of_zero_le hi.1
  have hI:I<l.length:=by omega
  have eD:(l.map Sm.b).getD (I:Int).toNat []=l[I].b:=by
   rw [Int.toNat_natCast,List.getD_eq_getElem?_getD,List.getElem?_map,List.getElem?_eq_getElem hI]
   rfl
  rw [eD]
  obtain ⟨h1,h2,h3⟩:=hD l[I] (List.getElem_mem _)
  have q2:=(H.cells I hI).2.2
  obtain ⟨Post,hPost⟩:∃ Post:Ending->World->Prop,Post=fun e w'=>Below w.heap.size w w'∧∃ a c,e = .returned (.slice a l[I].b.length c)∧Bytes w' a l[I].b.length l[I].b∧l[I].b.length<=c:=⟨_,rfl⟩
  rw [<- hPost]
  have HP:Hid (∀ a c w',Below w.heap.size w w'->Bytes w' a l[I].b.length l[I].b->l[I].b.length<=c->Post (.returned (.slice a l[I].b.length c)) w'):=fun a c w' h1 h2 h3=>by rw [hPost];exact ⟨h1,a,c,rfl,h2,h3⟩
  clear hPost eD
  have HB:Hid (Bytes w l[I].a l[I].b.length l[I].b):=h1
  clear h1 hD
  generalize l[I].a=A at *
  generalize l[I].c=C at *
  generalize l[I].b=bs at *
  generalize bs.length=N at *
  have hlt:(I:Int)<16:=by omega
  have hI0:I<16:=by omega
  clear hi
  go_enter Tryz.func36,Tryz.ntmps36
  go_wp2_with (first | (go_at_call 66;refine (gknown_c (I:Int) w).mono ?_;rw [decide_eq_true (show 0<=(I:Int)∧(I:Int)<16 by omega)];rintro _ w1 ⟨rfl,hw⟩;replace hw:=hw.symm;subst hw) | (go_at_call 67;refine (clone2_c A N C bs w HB.out h2 (by omega)).mono ?_;rintro _ w1 ⟨hb,a',c',rfl,hB',hc'⟩))
  exact HP.out _ _ _ hb hB' hc'
 ·rw [if_neg hi]
  obtain ⟨Post,hPost⟩:∃ Post:Ending->World->Prop,Post=fun e w'=>Below w.heap.size w w'∧∃ a c,e = .returned (.slice a ([]:List Int).length c)∧Bytes w' a ([]:List Int).length []∧([]:List Int).length<=c:=⟨_,rfl⟩
  rw [<- hPost]
  have R:Post (.returned (.slice none 0 0)) w:=by rw [hPost];exact ⟨Below.refl _ _,none,0,rfl,⟨rfl,.inl rfl,fun z hz=>by simp at hz⟩,Nat.le_refl _⟩
  clear hPost
  go_enter Tryz.func36,Tryz.ntmps36
  go_wp2_with (go_at_call 66;refine (gknown_c i w).mono ?_;rw [decide_eq_false hi];rintro _ w1 ⟨rfl,rfl⟩)
  exact R
theorem rget_c {F:Nat->Prop} {g:Nat} {ρ:Rho} {w:World} (H:RGs F w g ρ) (i:Nat) (hi:i<16) :
  Calls Tryz.prog 36 #[.pointer (some ⟨g,0,none⟩),.int .i64 (i:Int)] w fun e w'=>Below w.heap.size w w'∧∃ a c,e = .returned (.slice a (ρ.dat.getD i []).length c)∧Bytes w' a (ρ.dat.getD i []).length (ρ.dat.getD i [])∧(ρ.dat.getD i []).length<=c:=by
 obtain ⟨sl,hB,hD,hsp,hdat⟩:=H.it
 have hS:=good_sl H.good hsp hdat
 have:=get2_c g ρ.x ρ.z sl (i:Int) w hB (fun s hs=>⟨(hD s hs).1.by_,(hD s hs).1.nil,by have:=(slotOk_fit (hS s hs)).2.2.1;omega⟩)
 rw [hdat,if_pos ⟨by omega,by omega⟩,Int.toNat_natCast] at this
 exact this
/-! ### the bytes of edits -/
theorem cnt_full (cs:List Int):∀ n,K.cnt cs 16 n<=n∧(K.cnt cs 16 n=n↔∀ k,k<n->cs.getD k 0=16)
 | 0=>⟨by simp [K.cnt],by simp [K.cnt]⟩
 | n + 1=>by
   obtain ⟨h1,h2⟩:=cnt_full cs n
   unfold K.cnt
   by_cases e:cs.getD n 0=16
   ·rw [if_pos e]
    refine ⟨by omega,?_⟩
    constructor
    ·intro h k hk
     by_cases hkn:k=n
     ·rw [hkn];exact e
     ·exact h2.1 (by omega) k (by omega)
    ·intro h
     have:=h2.2 (fun k hk=>h k (by omega))
     omega
   ·rw [if_neg e]
    refine ⟨by omega,?_⟩
    constructor
    ·intro h
     omega
    ·intro h
     exact absurd (h n (by omega)) e
theorem count_none {cs:List Int} (hl:cs.length=32768) (hk:K.Kinds cs):(K.cntTo cs 32768).getD 16 0=32768↔Z.noneB cs=true:=by
 have h:=K.cntTo_cnt cs hk 16 (by omega) 32768
 have e:((16:Nat):Int)=16:=rfl
 rw [e] at h
 rw [h,show (32768:Int)=((32768:Nat):Int) from rfl,(cnt_full cs 32768).2]
 unfold Z.noneB
 rw [List.all_eq_true]
 constructor
 ·intro h1 y hy
  obtain ⟨k,hk,rfl⟩:=List.mem_iff_getElem.1 hy
  have:=h1 k (by omega)
  rw [List.getD_eq_getElem?_getD,List.getElem?_eq_getElem hk] at this
  exact decide_eq_true this
 ·intro h1 k hk
  rw [List.getD_eq_getElem?_getD,List.getElem?_eq_getElem (by omega)]
  exact of_decide_eq_true (h1 _ (List.getElem_mem (by omega)))
theorem enc_pos {b:List Int} (h:b.length=32768) (hk:K.Kinds b):K.encL b≠[]:=fun e=>by
 have h1:=K.dec_enc (cs:=b) hk h
 rw [e] at h1
 have h2:K.decL []=(3,[]):=by unfold K.decL;rw [if_pos (by decide)]
 rw [h2] at h1
 cases h1
def datB (b:List Int):List Int:=if Z.noneB b then [] else K.encL b
set_option maxHeartbeats 1000000 in
theorem bytesOf_c (g:Nat) (cs:List Int) (w:World) (hB:K.Blk w g 122 cs) (hl:cs.length=32768) (hk:K.Kinds cs) :
  Calls Tryz.prog 58 #[.pointer (some ⟨g,0,none⟩)] w fun e w'=>Below w.heap.size w w'∧∃ a c,e = .returned (.slice a (datB cs).length c)∧Own w' w.heap.size a c (datB cs):=by
 obtain ⟨Post,hPost⟩:∃ Post:Ending->World->Prop,Post=fun e w'=>Below w.heap.size w w'∧∃ a c,e = .returned (.slice a (datB cs).length c)∧Own w' w.heap.size a c (datB cs):=⟨_,rfl⟩
 rw [<- hPost]
 have HP:Hid (∀ w' a c D,datB cs=D->Below w.heap.size w w'->Own w' w.heap.size a c D->Post (.returned (.slice a D.length c)) w'):=fun w' a c D h1 h2 h3=>by rw [hPost];subst h1;exact ⟨h2,a,c,rfl,h3⟩
 clear hPost
 have hcnt:=K.counts_c g cs w hB hl hk
 have hcn:=count_none hl hk
 have HL:Hid (cs.length=32768):=hl
 have HK:Hid (K.Kinds cs):=hk
 have HB:Hid (K.Blk w g 122 cs):=hB
 clear hl hk hB
 go_enter Tryz.func58,Tryz.ntmps58
 cases hn:Z.noneB cs with
 | true =>
   have hv:=hcn.2 hn
   have HD:Hid (datB cs=[]):=by show _=_;unfold datB;rw [hn];rfl
   clear hcn hn
   go_wp2_with (go_at_call 85;refine hcnt.mono ?_;clear hcnt;rintro _ w1 ⟨rfl,h64,hb⟩;have h16:=h64.cell (k:=16) (by rw [K.cntTo_length];omega);rw [hv] at h16;have R:=HP.out w1 none 0 [] HD.out hb (Own.nil _ _);clear h64 hb hv HP)
   exact R
 | false =>
   have hv:(K.cntTo cs 32768).getD 16 0≠32768:=fun h=>by rw [hcn.1 h] at hn;cases hn
   have HD:Hid (datB cs=K.encL cs):=by show _=_;unfold datB;rw [hn];rfl
   have HNe:Hid (K.encL cs≠[]):=enc_pos HL.out HK.out
   have HE:Hid (∀ W,K.Blk W g 122 cs->Calls Tryz.prog 86 #[.pointer (some ⟨g,0,none⟩)] W fun e w'=>∃ a c,e = .returned (.slice a (K.encL cs).length c)∧K.Bytes w' a (K.encL cs).length (K.encL cs)∧(K.encL cs).length<=c∧K.Own w' W.heap.size a c (K.encL cs)∧Below W.heap.size W w'):=fun W hW=>K.encode_c g cs W hW HL.out HK.out
   clear hcn hn
   have h64':∀ W,K.B64k W w.heap.size 3 (K.cntTo cs 32768)->W.cell? ⟨w.heap.size,16,none⟩=some (.int .i64 ((K.cntTo cs 32768).getD 16 0)):=fun W h=>h.cell (k:=16) (by rw [K.cntTo_length];omega)
   have H64:Hid (∀ W,K.B64k W w.heap.size 3 (K.cntTo cs 32768)->W.cell? ⟨w.heap.size,16,none⟩=some (.int .i64 ((K.cntTo cs 32768).getD 16 0))):=h64'
   clear h64'
   generalize (K.cntTo cs 32768).getD 16 0=v16 at *
   generalize K.encL cs=ec at *
   go_wp2_with (first
    | (go_at_call 85;refine hcnt.mono ?_;clear hcnt;rintro _ w1 ⟨rfl,h64,hb⟩;have h16:=H64.out w1 h64;have HB1:Hid (K.Blk w1 g 122 cs):=(hb.block g (Array.getElem?_eq_some_iff.1 HB.out).1).trans HB.out;have Hb1:Hid (Below w.heap.size w w1):=hb;clear h64 hb H64 HB)
    | (go_at_call 86;refine (HE.out _ HB1.out).mono ?_;rintro _ w2 ⟨a,c,rfl,hby,hc,how,hb2⟩;have R:=HP.out w2 a c ec HD.out (Hb1.out.trans (hb2.mono Hb1.out.size)) (Own.base how Hb1.out.size);clear hby hc how hb2 HP HE Hb1 HB1 HD))
   exact R
def LoadSay (b:List Int) (w:World) (e:Ending) (w':World):Prop:=Below w.heap.size w w' ∧
 ((b=[]∧e = .returned (.tuple #[.pointer none,.int .i64 0]))∨(b≠[]∧∃ g,w.heap.size<=g∧e = .returned (.tuple #[.pointer (some ⟨g,0,none⟩),.int .i64 0])∧K.Blk w' g 122 b))
def EdOk (E:Ed):Prop:=∀ x z,E x z=[]∨((E x z).length=32768∧K.Kinds (E x z)∧Z.noneB (E x z)=false)
theorem ed0_ok:EdOk E0:=fun _ _=>.inl rfl
theorem div_i64 {x:Int} (h:I64 x):I64 (x/4):=⟨by have:=h.1;omega,by have:=h.2;omega⟩
set_option maxHeartbeats 2000000 in
theorem load_c {F:Nat->Prop} {w:World} {s d m n:Nat} {S:St} {V:List Bk} {R:Rf} (h:SO F w s d m n S V R) {E:Ed} (hE:Has V E) (hO:EdOk E) (ho:S.out=false) (x z:Int) (hx:I64 x) (hz:I64 z) :
  Calls Tryz.prog 27 #[.pointer (some ⟨s,0,none⟩),valA x z] w (LoadSay (E x z) w):=by
 obtain ⟨Post,hPost⟩:∃ Post:Ending->World->Prop,Post=LoadSay (E x z) w:=⟨_,rfl⟩
 rw [<- hPost]
 have H0:Hid (∀ w',E x z=[]->Below w.heap.size w w'->Post (.returned (.tuple #[.pointer none,.int .i64 0])) w'):=fun w' h1 h2=>by rw [hPost];exact ⟨h2,.inl ⟨h1,rfl⟩⟩
 have H1:Hid (∀ w' g,E x z≠[]->w.heap.size<=g->K.Blk w' g 122 (E x z)->Below w.heap.size w w'->Post (.returned (.tuple #[.pointer (some ⟨g,0,none⟩),.int .i64 0])) w'):=fun w' g h1 h2 h3 h4=>by rw [hPost];exact ⟨h4,.inr ⟨h1,g,h2,rfl,h3⟩⟩
 clear hPost
 obtain ⟨hb0,k0⟩:=box_a w x z
 have HS:Hid (SO F w s d m n S V R):=h
 have HRg:Hid (∀ W,Below w.heap.size w W->Calls Tryz.prog 33 #[.pointer (some ⟨s,0,none⟩),.int .i64 (x/4),.int .i64 (z/4)] W (RegSay S V E (x/4) (z/4) W)):=fun W hb=>region_c (h.on hb) hE _ _ (div_i64 hx) (div_i64 hz)
 have HHm:Hid (∀ W,Calls Tryz.prog 52 #[valA x z] W fun e w'=>e = .returned (.tuple #[valA (x/4) (z/4),.int .i64 (slotN x z:Int)])∧Below W.heap.size W w'):=fun W=>home_c x z hx hz W
 have HSl:Hid ((regD E (x/4) (z/4)).getD (slotN x z) []=encK (E x z)):=regD_slot E x z
 clear h hE
 go_enter Tryz.func27,Tryz.ntmps27
 go_wp2_with fail
 refine (HHm.out _).mono ?_
 rintro _ w1 ⟨rfl,hb1⟩
 have Hb1:Hid (Below w.heap.size w w1):=hb0.trans (hb1.mono hb0.size)
 clear hb0 hb1 k0 HHm
 go_wp2_with fail
 have hb2:=Hb1.out.alloc Hb1.out.size (.cells #[.int .i64 (x/4),.int .i64 (z/4)] 39)
 refine (HRg.out _ hb2).mono ?_
 rintro _ w2 ⟨hb3,⟨h1,_⟩|⟨_,g,F',sp,rfl,hG,_,hF⟩⟩
 ·rw [ho] at h1;cases h1
 have Hb2:Hid (Below w.heap.size w w2):=hb2.trans (hb3.mono hb2.size)
 have hget:=rget_c hG (slotN x z) (slotN_lt x z)
 simp only at hget
 rw [HSl.out] at hget
 clear hb2 hb3 hG hF HSl HRg Hb1 ho
 rcases hO x z with he | ⟨hl,hk,hn⟩
 ·rw [he] at hget
  have HR:Hid (∀ w',Below w2.heap.size w2 w'->Post (.returned (.tuple #[.pointer none,.int .i64 0])) w'):=fun w' h=>H0.out w' he (Hb2.out.trans (h.mono Hb2.out.size))
  clear H0 H1 hO HS Hb2 he
  go_wp2_with (go_at_call 36;refine hget.mono ?_;clear hget;rintro _ w3 ⟨hb,a,c,rfl,_,_⟩;have R2:=HR.out w3 hb;clear HR hb;rw [encK_nil])
  exact R2
 ·have hne:E x z≠[]:=fun e=>by rw [e] at hl;cases hl
  have hen:encK (E x z)=K.encL (E x z):=if_neg hne
  rw [hen] at hget
  have HLn:Hid ((K.encL (E x z)).length<=32788):=K.enc_len _
  have hpos:0<(K.encL (E x z)).length:=List.length_pos_iff.2 (enc_pos hl hk)
  have HDe:Hid (K.decL (K.encL (E x z))=(0,E x z)):=K.dec_enc (cs:=E x z) hk hl
  have HR:Hid (∀ w3,Below w2.heap.size w2 w3->∀ w' g,w3.heap.size<=g->K.Blk w' g 122 (E x z)->Below w3.heap.size w3 w'->Post (.returned (.tuple #[.pointer (some ⟨g,0,none⟩),.int .i64 0])) w'):=fun w3 h3 w' g h4 h5 h6=>by
   have h7:=Hb2.out.trans (h3.mono Hb2.out.size)
   exact H1.out w' g hne (Nat.le_trans h7.size h4) h5 (h7.trans (h6.mono h7.size))
  clear H0 H1 hO HS Hb2 hen hne hl hk hn
  generalize K.encL (E x z)=ec at *
  generalize E x z=cs at *
  have hnz:((ec.length:Nat):Int)≠0:=by omega
  have HDc:Hid (∀ a c W,Bytes W a ec.length ec->ec.length<=c->Calls Tryz.prog 53 #[.slice a ec.length c] W (K.DecSay (K.decL ec) W)):=fun a c W h1 h2=>K.decode_c a ec.length c ec W h1.toK h2 (by have:=HLn.out;omega)
  rw [HDe.out] at HDc
  generalize ec.length=N at *
  go_wp2_with (first
   | (go_at_call 36;refine hget.mono ?_;clear hget;rintro _ w3 ⟨hb,a,c,rfl,hby,hc⟩;have HB3:Hid (Bytes w3 a N ec∧N<=c):=⟨hby,hc⟩;have HR3:Hid _:=HR.out w3 hb;clear HR hb hby hc)
   | (go_at_call 53;refine (HDc.out _ _ _ HB3.out.1 HB3.out.2).mono ?_;rintro _ w4 ⟨hb4,⟨_,g4,hg4,rfl,hB4⟩|⟨h0,_⟩⟩))
  ·exact HR3.out w4 g4 hg4 hB4 hb4
  ·exact absurd rfl h0
end Go.Proofs.YtlllmmceoeihkaaGreat
set_option maxRecDepth 20000
namespace Go.Proofs.YtlllmmceoeihkaaGreat
open Go.RowKit
def cgc (o:Cg):List Value:=[.int .i64 o.s,.slice o.a o.n o.c]
def cgCells (l:List Cg):List Value:=l.flatMap cgc
theorem cgCells_at:∀ (l:List Cg) (k:Nat) (h:k<l.length) (j:Nat),j<2->(cgCells l)[k*2+j]?=(cgc l[k])[j]?
 | p::l,0,_,j,hj=>by
   show (cgc p++cgCells l)[0*2+j]?=_
   rw [Nat.zero_mul,Nat.zero_add,List.getElem?_append_left (by show j<2;exact hj)]
   rfl
 | p::l,k+1,h,j,hj=>by
   have ih:=cgCells_at l k (by simpa using h) j hj
   show (cgc p++cgCells l)[(k+1)*2+j]?=_
   rw [show (k+1)*2+j=2+(k*2+j) by omega,List.getElem?_append_right (by show 2<=_;omega)]
   simp only [List.getElem_cons_succ]
   rw [<- ih]
   congr 1
   show 2+(k*2+j)-2=_
   omega
structure CRow (B:Nat) (w:World) (a:Option Addr) (c:Nat) (l:List Cg):Prop where
 row:w.ownsRow B 145 2 (.slice a l.length c) l.length (cgCells l)
 dat:∀ o∈l,Own w B o.a o.c o.b∧o.n=o.b.length∧I64 o.s∧(∀ z∈o.b,0<=z∧z<=255)∧o.b.length<=40000
theorem CRow.form {B:Nat} {w:World} {a:Option Addr} {c:Nat} {l:List Cg} (h:CRow B w a c l):(a=none∧l=[]∧c=0)∨∃ g cur,a=some ⟨g,0,none⟩∧B<=g∧w.heap[g]?=some (.cells cur 145 (0,0)):=by
 rcases h.row.2 with ⟨e,h0⟩|⟨g,c',cur,e,hB,hg,_⟩
 ·simp only [Value.slice.injEq] at e
  exact .inl ⟨e.1,List.eq_nil_of_length_eq_zero h0,e.2.2⟩
 ·simp only [Value.slice.injEq] at e
  exact .inr ⟨g,cur,e.1,hB,hg⟩
theorem own_keep {B t k:Nat} {w w':World} {v:Value} {n:Nat} {cs:List Value} (h:w.ownsRow B t k v n cs) (e:∀ g cur,w.heap[g]?=some (.cells cur t (0,0))->B<=g->v.ownBlock=some g->w'.heap[g]?=w.heap[g]?):w'.ownsRow B t k v n cs:=by
 refine ⟨h.1,?_⟩
 rcases h.2 with h1 | ⟨g,c',cur,hv,hB,hg,r⟩
 ·exact .inl h1
 ·exact .inr ⟨g,c',cur,hv,hB,(e g cur hg hB (by rw [hv];rfl)).trans hg,r⟩
theorem CRow.keep {B:Nat} {w w':World} {a:Option Addr} {c:Nat} {l:List Cg} (h:CRow B w a c l) (e:∀ g cur,a=some ⟨g,0,none⟩->w.heap[g]?=some (.cells cur 145 (0,0))->w'.heap[g]?=w.heap[g]?) (e5:∀ g cur,B<=g->w.heap[g]?=some (.cells cur 5 (0,0))->w'.heap[g]?=w.heap[g]?):CRow B w' a c l:=by
 refine ⟨own_keep h.row (fun g cur hg _ hv=>e g cur ?_ hg),fun o ho=>?_⟩
 ·rcases h.form with ⟨rfl,_,_⟩|⟨g',_,rfl,_,_⟩
  ·simp [Value.ownBlock] at hv
  ·simp [Value.ownBlock] at hv
   rw [hv]
 ·obtain ⟨h1,h2⟩:=h.dat o ho
  exact ⟨own_keep h1 (fun g cur hg hB _=>e5 g cur hB hg),h2⟩
theorem CRow.on {B:Nat} {w w':World} {a:Option Addr} {c:Nat} {l:List Cg} (h:CRow B w a c l) (hb:Below w.heap.size w w'):CRow B w' a c l :=
 h.keep (fun g _ _ hg=>hb.block g (Array.getElem?_eq_some_iff.1 hg).1) (fun g _ _ hg=>hb.block g (Array.getElem?_eq_some_iff.1 hg).1)
theorem CRow.cell {B:Nat} {w:World} {g c:Nat} {l:List Cg} (h:CRow B w (some ⟨g,0,none⟩) c l) {k:Nat} (hk:k<l.length):w.cell? ⟨g,k*2,none⟩=some (.int .i64 l[k].s)∧w.cell? ⟨g,k*2+1,none⟩=some (.slice l[k].a l[k].n l[k].c):=by
 have hc:=h.row.cells (g:=g) rfl
 have c:∀ j v,j<2->(cgc l[k])[j]?=some v->w.cell? ⟨g,k*2+j,none⟩=some v:=fun j v hj hv=>by
  have:=hc (k*2+j) v (by rw [cgCells_at l k hk j hj];exact hv)
  rw [Addr.add_lit,Nat.zero_add] at this
  exact this
 exact ⟨c 0 _ (by omega) rfl,c 1 _ (by omega) rfl⟩
theorem CRow.cgs {B:Nat} {w:World} {a:Option Addr} {c:Nat} {l:List Cg} (h:CRow B w a c l):CgsAt w a l:=fun k hk=>by
 rcases h.form with ⟨_,h0,_⟩|⟨g,_,rfl,_,_⟩
 ·rw [h0] at hk;simp at hk
 ·obtain ⟨c0,c1⟩:=h.cell hk
  obtain ⟨d1,d2,d3,d4,d5⟩:=h.dat _ (List.getElem_mem hk)
  refine ⟨g,0,rfl,by rw [Nat.zero_add];exact c0,by rw [Nat.zero_add];exact c1,?_,fun e=>?_,d3,by omega⟩
  ·rw [d2];exact d1.bytes d4 _ rfl
  ·rcases d1.parts with ⟨_,h1,_⟩|⟨g',h1,_⟩
   ·exact h1
   ·rw [e] at h1;cases h1
/-! ### has -/
def IdxSay (n:Nat) (p:Nat->Bool) (w:World) (e:Ending) (w':World):Prop:=∃ v:Int,e = .returned (.int .i64 v)∧Below w.heap.size w w'∧((v = -1∧∀ k,k<n->p k=false)∨(0<=v∧∃ k,k<n∧p k=true))
theorem eqS_c (s t:Int) (a:Option Addr) (n c q:Nat) (w:World) (hq:w.cell? ⟨q,0,none⟩=some (.int .i64 t)) :
  Calls Tryz.prog 96 #[.agg #[.int .i64 s,.slice a n c],.pointer (some ⟨q,0,none⟩)] w fun e w'=>e = .returned (.bool (decide (s=t)))∧Below w.heap.size w w':=by
 have hb:Below w.heap.size w (w.alloc (.cells #[.int .i64 s,.slice a n c] 145)):=(Below.refl _ _).alloc (Nat.le_refl _) _
 have hq2:(w.alloc (.cells #[.int .i64 s,.slice a n c] 145)).cell? ⟨q,0,none⟩=some (.int .i64 t):=(hb.cell (p:=⟨q,0,none⟩) (World.block_lt_of_cell? w _ hq)).trans hq
 clear hq
 go_enter Tryz.func96,Tryz.ntmps96
 go_wp2
 go_ret
 exact ⟨rfl,hb⟩
set_option maxHeartbeats 1000000 in
theorem idx_c (a:Option Addr) (n c q:Nat) (t:Int) (B:Nat) (l:List Cg) (w:World) (hn:n<=1000) (hl:l.length=n) (hR:CRow B w a c l) (hq:w.cell? ⟨q,0,none⟩=some (.int .i64 t)) :
  Calls Tryz.prog 128 #[.slice a n c,.func (.func 96) #[] #[.pointer (some ⟨q,0,none⟩)]] w (IdxSay n (fun k=>decide ((l.getD k ⟨0,none,0,0,[]⟩).s=t)) w):=by
 obtain ⟨p,hp⟩:∃ p:Nat->Bool,p=fun k=>decide ((l.getD k ⟨0,none,0,0,[]⟩).s=t):=⟨_,rfl⟩
 rw [<- hp]
 obtain ⟨Post,hPost⟩:∃ Post,Post=IdxSay n p w:=⟨_,rfl⟩
 rw [<- hPost]
 have HP:Hid (∀ e w',IdxSay n p w e w'->Post e w'):=fun e w' h=>by rw [hPost];exact h
 clear hPost
 have HR:Hid (CRow B w a c l):=hR
 have Hq:Hid (w.cell? ⟨q,0,none⟩=some (.int .i64 t)):=hq
 have Hl:Hid (l.length=n):=hl
 have Hp:Hid (∀ k (h:k<l.length),p k=decide (l[k].s=t)):=fun k h=>by rw [hp];simp only;rw [List.getD_eq_getElem?_getD,List.getElem?_eq_getElem h];rfl
 clear hR hq hl hp
 have hen:∀ args w,(callFunc 96 args).run Tryz.prog w = .ok (.enter 96 args) w:=enters_of Tryz.func96 (by kernel_rfl) rfl
 go_enter Tryz.func128,Tryz.ntmps128
 go_wp2
 go_loopw [8] (fun v wr=>∃ k:Nat,v = .int .i64 (k:Int)∧k<=n∧Hid (Below w.heap.size w wr∧∀ j,j<k->p j=false)) (fun v _=>n-(intOf v).toNat)
 case atStart=>exact ⟨0,rfl,by omega,Below.refl _ _,fun j hj=>by omega⟩
 case round =>
  obtain ⟨k,rfl,hk,HF⟩:=hrel
  by_cases hlt:k<n
  case neg =>
   have hlt':¬ (k:Int)<(n:Int):=by omega
   obtain rfl:k=n:=by omega
   have R:=HP.out (.returned (.int .i64 (-1))) wr ⟨_,rfl,HF.out.1,.inl ⟨rfl,HF.out.2⟩⟩
   clear HP HF HR Hq Hl Hp
   go_wp2
   exact R
  have hlt':(k:Int)<(n:Int):=by omega
  have hkl:k<l.length:=by rw [Hl.out];exact hlt
  have hR:=HR.out.on HF.out.1
  have hpk:=Hp.out k hkl
  rcases hR.form with ⟨_,h0,_⟩|⟨g,_,rfl,_,_⟩
  ·rw [h0] at hkl;simp at hkl
  obtain ⟨c0,c1⟩:=hR.cell hkl
  have hq:=(HF.out.1.cell (p:=⟨q,0,none⟩) (World.block_lt_of_cell? w _ Hq.out)).trans Hq.out
  have hcall:=eqS_c l[k].s t l[k].a l[k].n l[k].c q wr hq
  clear hR hq
  generalize l[k].s=s at *
  generalize l[k].a=sa at *
  generalize l[k].n=sn at *
  generalize l[k].c=sc at *
  rw [<- hpk] at hcall
  clear hpk
  cases hp:p k with
  | true =>
    rw [hp] at hcall
    have HX:Hid (∀ w',Below wr.heap.size wr w'->Post (.returned (.int .i64 (k:Int))) w'):=fun w' h=>HP.out _ _ ⟨_,rfl,HF.out.1.trans (h.mono HF.out.1.size),.inr ⟨by omega,k,hlt,hp⟩⟩
    clear HP HF HR Hq Hl Hp hp
    go_wp2_with fail
    refine hcall.mono ?_
    rintro _ w1 ⟨rfl,hw1⟩
    have R:=HX.out w1 hw1
    go_wp2
    exact R
  | false =>
    rw [hp] at hcall
    have HF2:Hid (∀ w',Below wr.heap.size wr w'->Below w.heap.size w w'∧∀ j,j<k+1->p j=false):=fun w' h=>⟨HF.out.1.trans (h.mono HF.out.1.size),fun j hj=>by
     by_cases e:j=k
     ·rw [e];exact hp
     ·exact HF.out.2 j (by omega)⟩
    clear HP HF HR Hq Hl Hp hp
    go_wp2_with fail
    refine hcall.mono ?_
    rintro _ w1 ⟨rfl,hw1⟩
    have HF3:=HF2.out w1 hw1
    clear HF2 hw1
    go_wp2
    go_roundw
    case rel=>exact ⟨k+1,by go_num,by omega,HF3⟩
    case measure=>simp [intOf];omega
theorem con_c (a:Option Addr) (n c q:Nat) (t:Int) (B:Nat) (l:List Cg) (w:World) (hn:n<=1000) (hl:l.length=n) (hR:CRow B w a c l) (hq:w.cell? ⟨q,0,none⟩=some (.int .i64 t)) :
  Calls Tryz.prog 95 #[.slice a n c,.func (.func 96) #[] #[.pointer (some ⟨q,0,none⟩)]] w fun e w'=>e = .returned (.bool (l.any fun o=>decide (o.s=t)))∧Below w.heap.size w w':=by
 obtain ⟨Post,hPost⟩:∃ Post:Ending->World->Prop,Post=fun e w'=>e = .returned (.bool (l.any fun o=>decide (o.s=t)))∧Below w.heap.size w w':=⟨_,rfl⟩
 rw [<- hPost]
 have hi:=idx_c a n c q t B l w hn hl hR hq
 have HP:Hid (∀ v w',Below w.heap.size w w'->((v = -1∧∀ k,k<n->(fun k=>decide ((l.getD k ⟨0,none,0,0,[]⟩).s=t)) k=false)∨(0<=v∧∃ k,k<n∧(fun k=>decide ((l.getD k ⟨0,none,0,0,[]⟩).s=t)) k=true))->Post (.returned (.bool (decide ((0:Int)<=v)))) w'):=fun v w' h1 h2=>by
  rw [hPost]
  refine ⟨?_,h1⟩
  congr 2
  rcases h2 with ⟨rfl,h2⟩|⟨h0,k,hk,h2⟩
  ·symm
   rw [show decide ((0:Int) <= -1)=false from rfl,List.any_eq_false]
   intro o ho
   obtain ⟨k,hk,rfl⟩:=List.mem_iff_getElem.1 ho
   have:=h2 k (by omega)
   simp only [List.getD_eq_getElem?_getD,List.getElem?_eq_getElem hk,Option.getD_some] at this
   simpa using this
  ·rw [decide_eq_true h0]
   symm
   rw [List.any_eq_true]
   simp only [List.getD_eq_getElem?_getD,List.getElem?_eq_getElem (show k<l.length by omega),Option.getD_some] at h2
   exact ⟨l[k],List.getElem_mem _,h2⟩
 clear hPost hR hq hl
 go_enter Tryz.func95,Tryz.ntmps95
 go_wp2_with fail
 refine hi.mono ?_
 rintro _ w1 ⟨v,rfl,hb,hv⟩
 have R:=HP.out v w1 hb hv
 clear HP hv hb hi
 go_wp2
 exact R
theorem has_c (X Y:Int) (a:Option Addr) (n c:Nat) (t:Int) (B:Nat) (l:List Cg) (w:World) (hn:n<=1000) (hl:l.length=n) (hR:CRow B w a c l) :
  Calls Tryz.prog 72 #[.agg #[.int .i64 X,.int .i64 Y,.slice a n c],.int .i64 t] w fun e w'=>e = .returned (.bool (l.any fun o=>decide (o.s=t)))∧Below w.heap.size w w':=by
 obtain ⟨Post,hPost⟩:∃ Post:Ending->World->Prop,Post=fun e w'=>e = .returned (.bool (l.any fun o=>decide (o.s=t)))∧Below w.heap.size w w':=⟨_,rfl⟩
 rw [<- hPost]
 have HP:Hid (∀ w',Below w.heap.size w w'->Post (.returned (.bool (l.any fun o=>decide (o.s=t)))) w'):=fun w' h=>by rw [hPost];exact ⟨rfl,h⟩
 clear hPost
 have hb1:Below w.heap.size w ((w.alloc (.cells #[.int .i64 X,.int .i64 Y,.slice a n c] 143)).alloc (.cells #[.int .i64 t] 3)):=((Below.refl w.heap.size w).alloc (Nat.le_refl _) _).alloc (by simp) _
 have hk:=heap_alloc_new (w.alloc (.cells #[.int .i64 X,.int .i64 Y,.slice a n c] 143)) (.cells #[.int .i64 t] 3)
 have hk0:((w.alloc (.cells #[.int .i64 X,.int .i64 Y,.slice a n c] 143)).alloc (.cells #[.int .i64 t] 3)).cell? ⟨(w.alloc (.cells #[.int .i64 X,.int .i64 Y,.slice a n c] 143)).heap.size,0,none⟩=some (.int .i64 t):=by rw [cell_of_row _ _ 0 _ 3 (0,0) hk];rfl
 rw [World.size_alloc] at hk0
 have hc:=con_c a n c (w.heap.size+1) t B l _ hn hl (hR.on hb1) hk0
 have Hb1:Hid (Below w.heap.size w ((w.alloc (.cells #[.int .i64 X,.int .i64 Y,.slice a n c] 143)).alloc (.cells #[.int .i64 t] 3))):=hb1
 clear hk hk0 hb1 hR
 go_enter Tryz.func72,Tryz.ntmps72
 go_wp2_with fail
 refine hc.mono ?_
 rintro _ w1 ⟨rfl,hb⟩
 have R:=HP.out w1 (Hb1.out.trans (hb.mono Hb1.out.size))
 clear HP hb hc Hb1
 go_wp2
 exact R
end Go.Proofs.YtlllmmceoeihkaaGreat
set_option maxRecDepth 20000
namespace Go.Proofs.YtlllmmceoeihkaaGreat
open Go.RowKit
structure EbAt (w:World) (b off k:Nat) (e:Eb):Prop where
 c0:w.cell? ⟨b,off+k*3,none⟩=some (.int .i64 e.x)
 c1:w.cell? ⟨b,off+k*3+1,none⟩=some (.int .i64 e.z)
 c2:w.cell? ⟨b,off+k*3+2,none⟩=some (.slice e.a e.n e.c)
 by_:Bytes w e.a e.n e.b
 ix:I64 e.x
 iz:I64 e.z
def EdsAt (w:World) (a:Option Addr) (l:List Eb):Prop:=∀ k (h:k<l.length),∃ b off,a=some ⟨b,off,none⟩∧EbAt w b off k l[k]
theorem EdsAt.on {w w':World} {a:Option Addr} {l:List Eb} (H:EdsAt w a l) (hb:Below w.heap.size w w'):EdsAt w' a l:=fun k h=>by
 obtain ⟨b,off,e,h1⟩:=H k h
 exact ⟨b,off,e,cell_below h1.c0 hb,cell_below h1.c1 hb,cell_below h1.c2 hb,h1.by_.on hb,h1.ix,h1.iz⟩
structure Pm where
 X:Int
 Y:Int
 ca:Option Addr
 cc:Nat
 l:List Cg
def pmc (p:Pm):List Value:=[.int .i64 p.X,.int .i64 p.Y,.slice p.ca p.l.length p.cc]
def pmCells (l:List Pm):List Value:=l.flatMap pmc
theorem pmCells_len (l:List Pm):(pmCells l).length=l.length*3:=by
 induction l with
 | nil=>rfl
 | cons p l ih =>
   show (pmc p++pmCells l).length=_
   rw [List.length_append,ih,List.length_cons]
   show 3+l.length*3=_
   omega
theorem pmCells_append (a b:List Pm):pmCells (a++b)=pmCells a++pmCells b:=by simp [pmCells]
theorem pmCells_at:∀ (l:List Pm) (k:Nat) (h:k<l.length) (j:Nat),j<3->(pmCells l)[k*3+j]?=(pmc l[k])[j]?
 | p::l,0,_,j,hj=>by
   show (pmc p++pmCells l)[0*3+j]?=_
   rw [Nat.zero_mul,Nat.zero_add,List.getElem?_append_left (by show j<3;exact hj)]
   rfl
 | p::l,k+1,h,j,hj=>by
   have ih:=pmCells_at l k (by simpa using h) j hj
   show (pmc p++pmCells l)[(k+1)*3+j]?=_
   rw [show (k+1)*3+j=3+(k*3+j) by omega,List.getElem?_append_right (by show 3<=_;omega)]
   simp only [List.getElem_cons_succ]
   rw [<- ih]
   congr 1
   show 3+(k*3+j)-3=_
   omega
theorem pmCells_set:∀ (l:List Pm) (k:Nat) (h:k<l.length) (ca:Option Addr) (cc:Nat) (cl:List Cg),(pmCells l).set (k*3+2) (.slice ca cl.length cc)=pmCells (l.set k ⟨l[k].X,l[k].Y,ca,cc,cl⟩)
 | p::l,0,_,ca,cc,cl=>by
   show (pmc p++pmCells l).set (0*3+2) _=_
   rfl
 | p::l,k+1,h,ca,cc,cl=>by
   have ih:=pmCells_set l k (by simpa using h) ca cc cl
   show (pmc p++pmCells l).set ((k+1)*3+2) _=_
   rw [show (k+1)*3+2=(pmc p).length+(k*3+2) by show _=3+_;omega,List.set_append_right _ _ (by omega),Nat.add_sub_cancel_left,ih]
   rfl
structure PRow (B:Nat) (w:World) (av:Option Addr) (cv:Nat) (ps:List Pm):Prop where
 row:w.ownsRow B 143 3 (.slice av ps.length cv) ps.length (pmCells ps)
 ch:∀ p∈ps,CRow B w p.ca p.cc p.l
 ne:ps.Pairwise fun p q=>∀ g,p.ca=some ⟨g,0,none⟩->q.ca≠some ⟨g,0,none⟩
theorem PRow.nil (B:Nat) (w:World):PRow B w none 0 []:=⟨World.ownsRow_nil w B 143 3,fun p hp=>(by cases hp),List.Pairwise.nil⟩
theorem PRow.form {B:Nat} {w:World} {av:Option Addr} {cv:Nat} {ps:List Pm} (h:PRow B w av cv ps):(av=none∧ps=[]∧cv=0)∨∃ g cur,av=some ⟨g,0,none⟩∧B<=g∧w.heap[g]?=some (.cells cur 143 (0,0))∧ps.length<=cv∧cv<=maxLen∧cur.size=cv*3∧cur.toList.take (ps.length*3)=pmCells ps:=by
 rcases h.row.2 with ⟨e,h0⟩|⟨g,c',cur,e,hB,hg,h1,h2,h3,h4⟩
 ·simp only [Value.slice.injEq] at e
  exact .inl ⟨e.1,List.eq_nil_of_length_eq_zero h0,e.2.2⟩
 ·simp only [Value.slice.injEq] at e
  rw [e.2.2]
  exact .inr ⟨g,cur,e.1,hB,hg,h1,h2,h3,h4⟩
theorem PRow.keep {B:Nat} {w w':World} {av:Option Addr} {cv:Nat} {ps:List Pm} (h:PRow B w av cv ps) (e:∀ (g:Nat) (cur:Array Value) (t:TypeId),B<=g->w.heap[g]?=some (.cells cur t (0,0))->w'.heap[g]?=w.heap[g]?):PRow B w' av cv ps :=
 ⟨own_keep h.row (fun g cur hg hB _=>e g cur 143 hB hg),fun p hp=>(h.ch p hp).keep (fun g cur hg h1=>by
  rcases (h.ch p hp).form with ⟨h0,_,_⟩|⟨g',cur',h2,hB,_⟩
  ·rw [h0] at hg;cases hg
  ·rw [h2] at hg
   cases hg
   exact e g cur 145 hB h1) (fun g cur hB h1=>e g cur 5 hB h1),h.ne⟩
theorem PRow.on {B:Nat} {w w':World} {av:Option Addr} {cv:Nat} {ps:List Pm} (h:PRow B w av cv ps) (hb:Below w.heap.size w w'):PRow B w' av cv ps :=
 h.keep (fun g _ _ _ hg=>hb.block g (Array.getElem?_eq_some_iff.1 hg).1)
theorem PRow.cell {B:Nat} {w:World} {g cv:Nat} {ps:List Pm} (h:PRow B w (some ⟨g,0,none⟩) cv ps) {k:Nat} (hk:k<ps.length):w.cell? ⟨g,k*3,none⟩=some (.int .i64 ps[k].X)∧w.cell? ⟨g,k*3+1,none⟩=some (.int .i64 ps[k].Y)∧w.cell? ⟨g,k*3+2,none⟩=some (.slice ps[k].ca ps[k].l.length ps[k].cc):=by
 have hc:=h.row.cells (g:=g) rfl
 have c:∀ j v,j<3->(pmc ps[k])[j]?=some v->w.cell? ⟨g,k*3+j,none⟩=some v:=fun j v hj hv=>by
  have:=hc (k*3+j) v (by rw [pmCells_at ps k hk j hj];exact hv)
  rw [Addr.add_lit,Nat.zero_add] at this
  exact this
 exact ⟨c 0 _ (by omega) rfl,c 1 _ (by omega) rfl,c 2 _ (by omega) rfl⟩
theorem PRow.push {B:Nat} {w w':World} {av av':Option Addr} {cv cv':Nat} {ps:List Pm} (h:PRow B w av cv ps) {X Y:Int} (hr:w'.ownsRow B 143 3 (.slice av' (ps++[(⟨X,Y,none,0,[]⟩:Pm)]).length cv') (ps++[(⟨X,Y,none,0,[]⟩:Pm)]).length (pmCells (ps++[(⟨X,Y,none,0,[]⟩:Pm)]))) (e:∀ (g:Nat) (cur:Array Value) (t:TypeId),t≠143->w.heap[g]?=some (.cells cur t (0,0))->w'.heap[g]?=w.heap[g]?):PRow B w' av' cv' (ps++[(⟨X,Y,none,0,[]⟩:Pm)]):=by
 refine ⟨hr,fun p hp=>?_,?_⟩
 ·rcases List.mem_append.1 hp with hp | hp
  ·exact (h.ch p hp).keep (fun g cur _ h1=>e g cur 145 (by decide) h1) (fun g cur _ h1=>e g cur 5 (by decide) h1)
  ·obtain rfl:=List.mem_singleton.1 hp
   exact ⟨World.ownsRow_nil w' B 145 2,fun o ho=>(by cases ho)⟩
 ·rw [List.pairwise_append]
  refine ⟨h.ne,List.pairwise_singleton _ _,fun p _ q hq g _=>?_⟩
  obtain rfl:=List.mem_singleton.1 hq
  intro e
  cases e
theorem PRow.change {B:Nat} {w w':World} {g cv:Nat} {ps:List Pm} (h:PRow B w (some ⟨g,0,none⟩) cv ps) {k:Nat} (hk:k<ps.length) {ca:Option Addr} {cc:Nat} {cl:List Cg} (hg:w'.heap[g]?=w.heap[g]?) (hc:CRow B w' ca cc cl) (hne:∀ b,ca=some ⟨b,0,none⟩->∀ p∈ps,p.ca=some ⟨b,0,none⟩->ps[k].ca=some ⟨b,0,none⟩) (hoth:∀ (b:Nat) (cur:Array Value),ps[k].ca≠some ⟨b,0,none⟩->w.heap[b]?=some (.cells cur 145 (0,0))->w'.heap[b]?=w.heap[b]?) (e5:∀ (b:Nat) (cur:Array Value),w.heap[b]?=some (.cells cur 5 (0,0))->w'.heap[b]?=w.heap[b]?) :
  PRow B (w'.setCell ⟨g,k*3+2,none⟩ (.slice ca cl.length cc)) (some ⟨g,0,none⟩) cv (ps.set k ⟨ps[k].X,ps[k].Y,ca,cc,cl⟩):=by
 have hset:∀ (b:Nat) (cur:Array Value) (t:TypeId),t≠143->w'.heap[b]?=some (.cells cur t (0,0))->(w'.setCell ⟨g,k*3+2,none⟩ (.slice ca cl.length cc)).heap[b]?=w'.heap[b]?:=fun b cur t ht hb=>by
  refine Below.heap_setCell w' _ _ b (fun e=>?_)
  simp only at e
  rcases h.form with ⟨h0,_⟩|⟨g',cur',e',_,hg',_⟩
  ·cases h0
  ·cases e'
   rw [e,hg,hg'] at hb
   simp only [Option.some.injEq,Obj.cells.injEq] at hb
   exact ht hb.2.1.symm
 have hidx:∀ p∈ps.set k ⟨ps[k].X,ps[k].Y,ca,cc,cl⟩,p=⟨ps[k].X,ps[k].Y,ca,cc,cl⟩∨∃ j,∃ h:j<ps.length,j≠k∧p=ps[j]:=fun p hp=>by
  obtain ⟨j,hj,rfl⟩:=List.mem_iff_getElem.1 hp
  rw [List.getElem_set]
  rw [List.length_set] at hj
  by_cases e:k=j
  ·rw [if_pos e];exact .inl rfl
  ·rw [if_neg e];exact .inr ⟨j,hj,fun q=>e q.symm,rfl⟩
 have hpn:=List.pairwise_iff_getElem.1 h.ne
 refine ⟨?_,fun p hp=>?_,?_⟩
 ·rcases h.form with ⟨h0,_⟩|⟨g',cur,e',hB,hg',h1,h2,h3,h4⟩
  ·cases h0
  ·cases e'
   have hs:=heap_setCell_same w' g (k*3+2) _ 143 (.slice ca cl.length cc) (hg.trans hg')
   refine ⟨pmCells_len _,.inr ⟨g,cv,_,by rw [List.length_set],hB,hs,by rw [List.length_set];exact h1,h2,by simp [h3],?_⟩⟩
   rw [List.length_set,<- pmCells_set ps k hk ca cc cl,<- h4]
   simp only [Array.toList_setIfInBounds]
   rw [List.take_set]
 ·rcases hidx p hp with rfl | ⟨j,hj,hjk,rfl⟩
  ·exact hc.keep (fun b cur _ hb=>hset b cur 145 (by decide) hb) (fun b cur _ hb=>hset b cur 5 (by decide) hb)
  ·have hc0:=h.ch ps[j] (List.getElem_mem hj)
   have hc1:CRow B w' ps[j].ca ps[j].cc ps[j].l:=hc0.keep (fun b cur hb hw=>hoth b cur (fun e=>by
    rcases Nat.lt_or_gt_of_ne hjk with hlt | hlt
    ·exact hpn j k hj hk hlt b hb e
    ·exact hpn k j hk hj hlt b e hb) hw) (fun b cur _ hw=>e5 b cur hw)
   exact hc1.keep (fun b cur _ hb=>hset b cur 145 (by decide) hb) (fun b cur _ hb=>hset b cur 5 (by decide) hb)
 ·rw [List.pairwise_iff_getElem]
  intro i j hi hj hij b hb
  rw [List.length_set] at hi hj
  rw [List.getElem_set] at hb ⊢
  by_cases ei:k=i
  ·rw [if_pos ei] at hb
   rw [if_neg (by omega)]
   intro hb2
   have:=hne b hb ps[j] (List.getElem_mem hj) hb2
   exact hpn k j hk hj (by omega) b this hb2
  ·rw [if_neg ei] at hb
   by_cases ej:k=j
   ·rw [if_pos ej]
    intro hb2
    have:=hne b hb2 ps[i] (List.getElem_mem hi) hb
    exact hpn i k hi hk (by omega) b hb this
   ·rw [if_neg ej]
    exact hpn i j hi hj hij b hb
/-! ### edits by regions -/
def regs (ps:List Pm):List (Int×Int):=ps.map fun p=>(p.X,p.Y)
def idxR (rs:List (Int×Int)):Rf:=fun x z=>(rs.findIdx? fun r=>decide (r.1=x∧r.2=z)).map fun k:Nat=>(k:Int)
theorem regs_set (ps:List Pm) {k:Nat} (hk:k<ps.length) (ca:Option Addr) (cc:Nat) (cl:List Cg):regs (ps.set k ⟨ps[k].X,ps[k].Y,ca,cc,cl⟩)=regs ps:=by
 unfold regs
 rw [List.map_set]
 apply List.ext_getElem
 ·simp
 ·intro i h1 h2
  rw [List.getElem_set]
  split
  ·rename_i e;subst e;simp
  ·rfl
theorem idx_some {ps:List Pm} {x z:Int} {v:Int} (h:idxR (regs ps) x z=some v):∃ k,∃ hk:k<ps.length,v=(k:Int)∧ps[k].X=x∧ps[k].Y=z:=by
 unfold idxR at h
 obtain ⟨k,hk,rfl⟩:=Option.map_eq_some_iff.1 h
 obtain ⟨h1,h2,_⟩:=List.findIdx?_eq_some_iff_getElem.1 hk
 have hk':k<ps.length:=by simpa [regs] using h1
 have h3:=of_decide_eq_true h2
 simp only [regs,List.getElem_map] at h3
 exact ⟨k,hk',rfl,h3⟩
theorem idx_none {ps:List Pm} {x z:Int} (h:idxR (regs ps) x z=none):∀ p∈ps,¬ (p.X=x∧p.Y=z):=fun p hp e=>by
 unfold idxR at h
 rw [Option.map_eq_none_iff,List.findIdx?_eq_none_iff] at h
 have:=h (p.X,p.Y) (List.mem_map.2 ⟨p,hp,rfl⟩)
 exact of_decide_eq_false this e
theorem idx_push {ps:List Pm} {x z:Int} (h:idxR (regs ps) x z=none) (p:Pm) (hx:p.X=x) (hz:p.Y=z):idxR (regs (ps++[p]))=(idxR (regs ps)).put x z (ps.length:Int):=by
 funext x' z'
 have hr:regs (ps++[p])=regs ps++[(x,z)]:=by simp [regs,hx,hz]
 unfold idxR Rf.put
 rw [hr,List.findIdx?_append]
 by_cases e:x'=x∧z'=z
 ·obtain ⟨rfl,rfl⟩:=e
  unfold idxR at h
  rw [Option.map_eq_none_iff] at h
  rw [h,if_pos ⟨rfl,rfl⟩]
  simp [List.findIdx?_cons,regs]
 ·rw [if_neg e]
  have h2:List.findIdx? (fun r:Int×Int=>decide (r.1=x'∧r.2=z')) [(x,z)]=none:=by
   rw [List.findIdx?_eq_none_iff]
   intro r hr
   obtain rfl:=List.mem_singleton.1 hr
   exact decide_eq_false (fun q=>e ⟨q.1.symm,q.2.symm⟩)
  rw [h2]
  simp
structure Grp (l1 l2:List Eb) (ps:List Pm):Prop where
 once:ps.Pairwise fun p q=>¬ (p.X=q.X∧p.Y=q.Y)
 chs:∀ p∈ps,p.l.map Cg.cs=(l1.filter (rgE p.X p.Y)).map Eb.cs
 all:∀ e∈l2,∃ p∈ps,rgE p.X p.Y e=true
 src:∀ p∈ps,∃ e∈l2,rgE p.X p.Y e=true
 len:ps.length<=l2.length
theorem Grp.nil:Grp [] [] []:=⟨List.Pairwise.nil,fun p hp=>(by cases hp),fun e he=>(by cases he),fun p hp=>(by cases hp),Nat.le_refl _⟩
theorem Grp.found {l:List Eb} {ps:List Pm} (h:Grp l l ps) {e:Eb} {k:Nat} (hk:k<ps.length) (he:ps[k].X=e.x/4∧ps[k].Y=e.z/4):Grp l (l++[e]) ps:=by
 refine ⟨h.once,h.chs,fun q hq=>?_,fun p hp=>?_,by have:=h.len;simp;omega⟩
 ·rcases List.mem_append.1 hq with hq | hq
  ·exact h.all q hq
  ·obtain rfl:=List.mem_singleton.1 hq
   exact ⟨ps[k],List.getElem_mem hk,decide_eq_true ⟨he.1.symm,he.2.symm⟩⟩
 ·obtain ⟨q,hq,h1⟩:=h.src p hp
  exact ⟨q,List.mem_append_left _ hq,h1⟩
theorem Grp.fresh {l:List Eb} {ps:List Pm} (h:Grp l l ps) {e:Eb} (hn:∀ p∈ps,¬ (p.X=e.x/4∧p.Y=e.z/4)):Grp l (l++[e]) (ps++[(⟨e.x/4,e.z/4,none,0,[]⟩:Pm)]):=by
 have hf:l.filter (rgE (e.x/4) (e.z/4))=[]:=by
  rw [List.filter_eq_nil_iff]
  intro q hq h1
  obtain ⟨p,hp,h2⟩:=h.all q hq
  have h1:=of_decide_eq_true h1
  have h2:=of_decide_eq_true h2
  exact hn p hp ⟨h2.1.symm.trans h1.1,h2.2.symm.trans h1.2⟩
 refine ⟨?_,fun p hp=>?_,fun q hq=>?_,fun p hp=>?_,by have:=h.len;simp;omega⟩
 ·rw [List.pairwise_append]
  refine ⟨h.once,List.pairwise_singleton _ _,fun p hp q hq=>?_⟩
  obtain rfl:=List.mem_singleton.1 hq
  exact hn p hp
 ·rcases List.mem_append.1 hp with hp | hp
  ·exact h.chs p hp
  ·obtain rfl:=List.mem_singleton.1 hp
   simp only
   rw [hf]
   rfl
 ·rcases List.mem_append.1 hq with hq | hq
  ·obtain ⟨p,hp,h1⟩:=h.all q hq
   exact ⟨p,List.mem_append_left _ hp,h1⟩
  ·obtain rfl:=List.mem_singleton.1 hq
   exact ⟨_,List.mem_append_right _ (List.mem_singleton.2 rfl),decide_eq_true ⟨rfl,rfl⟩⟩
 ·rcases List.mem_append.1 hp with hp | hp
  ·obtain ⟨q,hq,h1⟩:=h.src p hp
   exact ⟨q,List.mem_append_left _ hq,h1⟩
  ·obtain rfl:=List.mem_singleton.1 hp
   exact ⟨e,List.mem_append_right _ (List.mem_singleton.2 rfl),decide_eq_true ⟨rfl,rfl⟩⟩
theorem Grp.has {l l2:List Eb} {ps:List Pm} (h:Grp l l2 ps) {e:Eb} {k:Nat} (hk:k<ps.length) (he:ps[k].X=e.x/4∧ps[k].Y=e.z/4):((ps[k].l.any fun o=>decide (o.s=(slotN e.x e.z:Int)))=true↔∃ q∈l,q.x=e.x∧q.z=e.z):=by
 have hc:=h.chs ps[k] (List.getElem_mem hk)
 rw [he.1,he.2] at hc
 have hany:(ps[k].l.any fun o=>decide (o.s=(slotN e.x e.z:Int)))=((ps[k].l.map Cg.cs).any fun o=>decide (o.s=(slotN e.x e.z:Int))):=by rw [List.any_map];rfl
 rw [hany,hc,List.any_eq_true]
 constructor
 ·rintro ⟨o,ho,h1⟩
  obtain ⟨q,hq,rfl⟩:=List.mem_map.1 ho
  obtain ⟨hq,hr⟩:=List.mem_filter.1 hq
  refine ⟨q,hq,Classical.byContradiction (fun hne=>?_)⟩
  have:=slot_ne hr (show rgE (e.x/4) (e.z/4) e=true from decide_eq_true ⟨rfl,rfl⟩) hne
  have h2:(slotN q.x q.z:Int)=(slotN e.x e.z:Int):=of_decide_eq_true h1
  omega
 ·rintro ⟨q,hq,h1,h2⟩
  refine ⟨q.cs,List.mem_map.2 ⟨q,List.mem_filter.2 ⟨hq,decide_eq_true ⟨by rw [h1],by rw [h2]⟩⟩,rfl⟩,decide_eq_true ?_⟩
  show (slotN q.x q.z:Int)=_
  rw [h1,h2]
theorem Grp.add {l:List Eb} {ps:List Pm} {e:Eb} (h:Grp l (l++[e]) ps) {k:Nat} (hk:k<ps.length) (he:ps[k].X=e.x/4∧ps[k].Y=e.z/4) {o:Cg} (ho:o.cs=e.cs) (ca:Option Addr) (cc:Nat):Grp (l++[e]) (l++[e]) (ps.set k ⟨ps[k].X,ps[k].Y,ca,cc,ps[k].l++[o]⟩):=by
 have hon:=List.pairwise_iff_getElem.1 h.once
 have hidx:∀ p∈ps.set k ⟨ps[k].X,ps[k].Y,ca,cc,ps[k].l++[o]⟩,p=⟨ps[k].X,ps[k].Y,ca,cc,ps[k].l++[o]⟩∨∃ j,∃ h:j<ps.length,j≠k∧p=ps[j]:=fun p hp=>by
  obtain ⟨j,hj,rfl⟩:=List.mem_iff_getElem.1 hp
  rw [List.getElem_set]
  rw [List.length_set] at hj
  by_cases e:k=j
  ·rw [if_pos e];exact .inl rfl
  ·rw [if_neg e];exact .inr ⟨j,hj,fun q=>e q.symm,rfl⟩
 refine ⟨?_,fun p hp=>?_,fun q hq=>?_,fun p hp=>?_,by rw [List.length_set];exact h.len⟩
 ·rw [List.pairwise_iff_getElem]
  intro i j hi hj hij
  rw [List.length_set] at hi hj
  have hX:∀ m (hm:m<ps.length),(ps.set k ⟨ps[k].X,ps[k].Y,ca,cc,ps[k].l++[o]⟩)[m]'(by rw [List.length_set];exact hm)=if k=m then ⟨ps[k].X,ps[k].Y,ca,cc,ps[k].l++[o]⟩ else ps[m]:=fun m hm=>List.getElem_set ..
  rw [hX i hi,hX j hj]
  by_cases ei:k=i
  ·subst ei
   rw [if_pos rfl,if_neg (by omega)]
   exact hon k j hk hj hij
  ·rw [if_neg ei]
   by_cases ej:k=j
   ·subst ej
    rw [if_pos rfl]
    exact hon i k hi hk hij
   ·rw [if_neg ej]
    exact hon i j hi hj hij
 ·rcases hidx p hp with rfl | ⟨j,hj,hjk,rfl⟩
  ·simp only
   rw [List.map_append,h.chs _ (List.getElem_mem hk),List.filter_append,List.map_append]
   have:[e].filter (rgE ps[k].X ps[k].Y)=[e]:=List.filter_cons_of_pos (decide_eq_true ⟨he.1.symm,he.2.symm⟩)
   rw [this]
   simp [ho]
  ·rw [h.chs _ (List.getElem_mem hj),List.filter_append]
   have:[e].filter (rgE ps[j].X ps[j].Y)=[]:=by
    rw [List.filter_eq_nil_iff]
    intro q hq h1
    obtain rfl:=List.mem_singleton.1 hq
    have h1:=of_decide_eq_true h1
    rcases Nat.lt_or_gt_of_ne hjk with hlt | hlt
    ·exact hon j k hj hk hlt ⟨h1.1.symm.trans he.1.symm,h1.2.symm.trans he.2.symm⟩
    ·exact hon k j hk hj hlt ⟨he.1.trans h1.1,he.2.trans h1.2⟩
   rw [this,List.append_nil]
 ·obtain ⟨p,hp,h1⟩:=h.all q hq
  obtain ⟨j,hj,rfl⟩:=List.mem_iff_getElem.1 hp
  refine ⟨(ps.set k ⟨ps[k].X,ps[k].Y,ca,cc,ps[k].l++[o]⟩)[j]'(by rw [List.length_set];exact hj),List.getElem_mem _,?_⟩
  rw [List.getElem_set]
  split
  ·rename_i e;subst e;exact h1
  ·exact h1
 ·rcases hidx p hp with rfl | ⟨j,hj,hjk,rfl⟩
  ·exact h.src ps[k] (List.getElem_mem hk)
  ·exact h.src ps[j] (List.getElem_mem hj)
end Go.Proofs.YtlllmmceoeihkaaGreat
set_option maxRecDepth 20000
namespace Go.Proofs.YtlllmmceoeihkaaGreat
open Go.RowKit
theorem badTo_ok {b:List Int} (h:K.Kinds b):∀ n,K.badTo b n=false
 | 0=>rfl
 | n + 1=>by
   unfold K.badTo
   rw [badTo_ok h n,Bool.false_or,decide_eq_false]
   rw [List.getD_eq_getElem?_getD]
   cases hb:b[n]? with
   | none=>simp
   | some y =>
     have:=h y (List.mem_of_getElem? hb)
     simp
     omega
theorem mayC_ok {b:List Int} (h:b.length=32768) (hk:K.Kinds b):K.mayC b=0:=by
 unfold K.mayC
 rw [if_neg (by omega),if_neg (by omega),badTo_ok hk]
 rfl
theorem info145:(Tryz.prog.info? 145).map (fun i=>(i.zero,i.size,i.bytes))=some (some (.agg #[.int .i64 0,.slice none 0 0]),2,32):=by kernel_rfl
theorem info143:(Tryz.prog.info? 143).map (fun i=>(i.zero,i.size,i.bytes))=some (some (.agg #[.int .i64 0,.int .i64 0,.slice none 0 0]),3,40):=by kernel_rfl
theorem wpList_append_one {w:World} {ops:Array Oper} {rest:List Oper} {o:Oper} {a:Act} {Q:Exit->Act->World->Prop} {t e:TypeId} {z:Value} {size bytes:Nat} (ht:Tryz.prog.underlying t=some (.slice e)) (hin:(Tryz.prog.info? e).map (fun i=>(i.zero,i.size,i.bytes))=some (some z,size,bytes)) (hzs:z.cells.size=size) (h0:0<size) (hbs:bytes<=1000) (hgd:o.guard=none) (s x:Operand)
  (ho:o.op = .call { callee:=.builtin .append,args := #[s,x],argTypes := #[t,t] }) (B:Nat) (av:Option Addr) (cv n:Nat) (cells:List Value) (hs:a.eval s = .slice av n cv) (hown:w.ownsRow B e size (.slice av n cv) n cells)
  (b' sc:Nat) (news:List Value) (hx:a.eval x = .slice (some ⟨b',0,none⟩) 1 sc) (hX:w.heap[b']?=some (.cells news.toArray e (0,0))) (hnl:news.length=size) (h1:∀ u∈news,u.oneCell'=true) (hle:n<=3000000) (hB:B<=w.heap.size)
  (h:∀ g c' w',w'.ownsRow B e size (.slice (some ⟨g,0,none⟩) (n+1:Nat) c') (n+1) (cells++news)->w.grownBy w' (Value.ownBlock (.slice av n cv))->(Value.ownBlock (.slice av n cv)=some g∨g=w.heap.size)->g<w'.heap.size->wpList Tryz.prog ops Q rest (a.put o.dst (.slice (some ⟨g,0,none⟩) (n+1:Nat) c')) w'):wpList Tryz.prog ops Q (o::rest) a w:=by
 obtain ⟨i,hi,hz0,hz1,hz2⟩:=info_parts hin
 refine wpList_append_lies w hgd s x t ho B e i z size bytes ht hi hz0 hz1 hz2 hzs h0 _ _ _ hs hown ⟨b',0,none⟩ 1 sc news hx (by omega) ?_ h1 (by omega) (by unfold maxLen;omega) ?_ hB _ rfl h
 ·intro j u hj
  rw [Addr.add_lit,Nat.zero_add,cell_of_row w b' j _ e (0,0) hX]
  simpa using hj
 ·have:(n+1)*bytes<=(n+1)*1000:=Nat.mul_le_mul_left _ hbs
  omega
theorem datb_fit {e:Eb} (h:e.ok):∀ z∈datB e.b,0<=z∧z<=255:=by
 unfold datB
 split
 ·intro z hz;cases hz
 ·exact K.enc_fits h.2 h.1
theorem datb_len (b:List Int):(datB b).length<=40000:=by
 unfold datB
 split
 ·simp
 ·have:=K.enc_len b
  omega
theorem slot_i64 (x z:Int):I64 (slotN x z:Int):=⟨by omega,by have:=slotN_lt x z;omega⟩
theorem PRow.cap {B:Nat} {w:World} {av:Option Addr} {cv:Nat} {ps:List Pm} (h:PRow B w av cv ps) {i:Nat} (hi:i<ps.length):ps.length<=cv∧cv<=maxLen:=by
 rcases h.form with ⟨_,h0,_⟩|⟨_,_,_,_,_,h1,h2,_⟩
 ·rw [h0] at hi;simp at hi
 ·exact ⟨h1,h2⟩
structure PI (w:World) (l:List Eb) (m k:Nat) (wr:World) (av:Option Addr) (cv:Nat) (ps:List Pm) (nm:Nat):Prop where
 bel:Below w.heap.size w wr
 row:PRow w.heap.size wr av cv ps
 grp:Grp (l.take k) (l.take k) ps
 mp:RMap wr m nm (idxR (regs ps))
 once:Once (l.take k)
 nk:nm<=k
 hm:w.heap.size<=m
theorem PI.on {w:World} {l:List Eb} {m k:Nat} {wr w':World} {av:Option Addr} {cv:Nat} {ps:List Pm} {nm:Nat} (h:PI w l m k wr av cv ps nm) (hb:Below wr.heap.size wr w'):PI w l m k w' av cv ps nm :=
 ⟨h.bel.trans (hb.mono h.bel.size),h.row.on hb,h.grp,h.mp.same (hb.block m h.mp.lt),h.once,h.nk,h.hm⟩
structure PJ (w:World) (l:List Eb) (e:Eb) (m k i:Nat) (wr:World) (av:Option Addr) (cv:Nat) (ps:List Pm) (nm gc:Nat):Prop where
 bel:Below w.heap.size w wr
 row:PRow w.heap.size wr av cv ps
 grp:Grp (l.take k) (l.take k++[e]) ps
 mp:RMap wr m nm (idxR (regs ps))
 once:Once (l.take k)
 nk:nm<=k+1
 hm:w.heap.size<=m
 lt:i<ps.length
 at_:∀ h:i<ps.length,ps[i].X=e.x/4∧ps[i].Y=e.z/4
 ch:K.Blk wr gc 122 e.b
theorem PJ.on {w:World} {l:List Eb} {e:Eb} {m k i:Nat} {wr w':World} {av:Option Addr} {cv:Nat} {ps:List Pm} {nm gc:Nat} (h:PJ w l e m k i wr av cv ps nm gc) (hb:Below wr.heap.size wr w'):PJ w l e m k i w' av cv ps nm gc :=
 ⟨h.bel.trans (hb.mono h.bel.size),h.row.on hb,h.grp,h.mp.same (hb.block m h.mp.lt),h.once,h.nk,h.hm,h.lt,h.at_,(hb.block gc (Array.getElem?_eq_some_iff.1 h.ch).1).trans h.ch⟩
theorem PI.found {w:World} {l:List Eb} {m k:Nat} {wr:World} {av:Option Addr} {cv:Nat} {ps:List Pm} {nm gc:Nat} {e:Eb} {v:Int} (h:PI w l m k wr av cv ps nm) (hb:K.Blk wr gc 122 e.b) (hv:idxR (regs ps) (e.x/4) (e.z/4)=some v):∃ i:Nat,v=(i:Int)∧PJ w l e m k i wr av cv ps nm gc:=by
 obtain ⟨i,hi,rfl,h1⟩:=idx_some hv
 exact ⟨i,rfl,h.bel,h.row,h.grp.found hi h1,h.mp,h.once,by have:=h.nk;omega,h.hm,hi,fun _=>h1,hb⟩
theorem turned_block {w w':World} {m b:Nat} (h:w.mapTurned w' m) (hb:b≠m):w'.heap[b]?=w.heap[b]?:=by
 have:=(h.grown).block b
 by_cases hl:b<w.heap.size
 ·exact this hl (fun e=>hb (by cases e;rfl))
 ·obtain ⟨es,clock,es',clock',h1,rfl⟩:=h
  simp [ChangeMaps.setBlock,Ne.symm hb]
theorem turned_row {w w':World} {m b:Nat} {cur:Array Value} {t:TypeId} (h:w.mapTurned w' m) (hb:w.heap[b]?=some (.cells cur t (0,0))):w'.heap[b]?=w.heap[b]?:=by
 refine turned_block h (fun e=>?_)
 obtain ⟨es,clock,_,_,h1,_⟩:=h
 rw [e,h1] at hb
 cases hb
theorem below_turned {n:Nat} {w0 w w':World} {m:Nat} (hb:Below n w0 w) (h:w.mapTurned w' m) (hm:n<=m):Below n w0 w':=by
 have hg:=h.grown
 refine ⟨hg.os.trans hb.os,hg.tape.trans hb.tape,hg.output.trans hb.output,Nat.le_trans hb.size hg.size,fun k hk=>?_⟩
 exact (turned_block h (by omega)).trans (hb.block k hk)
theorem below_grown {n:Nat} {w0 w w':World} {row:Option Nat} (hb:Below n w0 w) (h:w.grownBy w' row) (hr:∀ b,row=some b->n<=b) (hn:n<=w0.heap.size):Below n w0 w':=by
 refine ⟨h.os.trans hb.os,h.tape.trans hb.tape,h.output.trans hb.output,Nat.le_trans hb.size h.size,fun k hk=>?_⟩
 exact (h.block k (by have:=hb.size;omega) (fun e=>by have:=hr k e.symm;omega)).trans (hb.block k hk)
theorem row_block_of {B t k:Nat} {w:World} {v:Value} {n:Nat} {cs:List Value} (h:w.ownsRow B t k v n cs) {b:Nat} (e:v.ownBlock=some b):B<=b∧∃ cur,w.heap[b]?=some (.cells cur t (0,0)):=by
 rcases h.2 with ⟨h1,_⟩|⟨g,c',cur,hv,hB,hg,_⟩
 ·rw [h1] at e;cases e
 ·rw [hv] at e
  simp only [Value.ownBlock,Option.some.injEq] at e
  rw [<- e]
  exact ⟨hB,cur,hg⟩
theorem grown_other {B t k:Nat} {w w':World} {v:Value} {n:Nat} {cs:List Value} (h:w.ownsRow B t k v n cs) (hg:w.grownBy w' v.ownBlock) {b:Nat} {cur:Array Value} {t':TypeId} (ht:t'≠t) (hb:w.heap[b]?=some (.cells cur t' (0,0))):w'.heap[b]?=w.heap[b]?:=by
 refine hg.block b (Array.getElem?_eq_some_iff.1 hb).1 (fun e=>?_)
 obtain ⟨_,cur',h1⟩:=row_block_of h e.symm
 rw [h1] at hb
 simp only [Option.some.injEq,Obj.cells.injEq] at hb
 exact ht hb.2.1.symm
theorem grown_map {B t k:Nat} {w w':World} {v:Value} {n:Nat} {cs:List Value} (h:w.ownsRow B t k v n cs) (hg:w.grownBy w' v.ownBlock) {m nm:Nat} {R:Rf} (hm:RMap w m nm R):RMap w' m nm R:=by
 refine hm.same (hg.block m hm.lt (fun e=>?_))
 obtain ⟨_,cur',h1⟩:=row_block_of h e.symm
 obtain ⟨_,⟨_,_,h2,_⟩,_⟩:=hm
 rw [h1] at h2
 cases h2
theorem once_dup {l l1:List Eb} {e q:Eb} (h:l=l1++[e]) (hq:q∈l1) (hx:q.x=e.x∧q.z=e.z):¬ Once l:=fun ho=>by
 rw [h] at ho
 exact (List.pairwise_append.1 ho).2.2 q hq e (by simp) hx
theorem once_take {l:List Eb} (h:Once l) (k:Nat):Once (l.take k):=List.Pairwise.sublist (List.take_sublist k l) h
theorem once_add {l1:List Eb} {e:Eb} (h:Once l1) (hn:¬ ∃ q∈l1,q.x=e.x∧q.z=e.z):Once (l1++[e]) :=
 List.pairwise_append.2 ⟨h,List.pairwise_singleton _ _,fun q hq e' he' hx=>by
  obtain rfl:=List.mem_singleton.1 he'
  exact hn ⟨q,hq,hx⟩⟩
theorem PI.fresh {w:World} {l:List Eb} {m k:Nat} {wr w1 w2 w3:World} {av:Option Addr} {cv:Nat} {ps:List Pm} {nm gc:Nat} {e:Eb} (h:PI w l m k wr av cv ps nm) (hch:K.Blk wr gc 122 e.b) (hv:idxR (regs ps) (e.x/4) (e.z/4)=none)
  (hm:RMap w1 m (nm+1) ((idxR (regs ps)).put (e.x/4) (e.z/4) (ps.length:Int))) (ht:wr.mapTurned w1 m) (hb2:Below w1.heap.size w1 w2) {g c':Nat} (hr:w3.ownsRow w.heap.size 143 3 (.slice (some ⟨g,0,none⟩) (ps.length+1:Nat) c') (ps.length+1) (pmCells ps++[.int .i64 (e.x/4),.int .i64 (e.z/4),.slice none 0 0])) (hg:w2.grownBy w3 (Value.ownBlock (.slice av ps.length cv))) :
  PJ w l e m k ps.length w3 (some ⟨g,0,none⟩) c' (ps++[(⟨e.x/4,e.z/4,none,0,[]⟩:Pm)]) (nm+1) gc:=by
 have hrow1:PRow w.heap.size w1 av cv ps:=h.row.keep (fun b cur t _ hb=>turned_row ht hb)
 have hrow2:=hrow1.on hb2
 have hlen:(ps++[(⟨e.x/4,e.z/4,none,0,[]⟩:Pm)]).length=ps.length+1:=by simp
 have hcells:pmCells (ps++[(⟨e.x/4,e.z/4,none,0,[]⟩:Pm)])=pmCells ps++[.int .i64 (e.x/4),.int .i64 (e.z/4),.slice none 0 0]:=by rw [pmCells_append];rfl
 have hc1:w1.heap[gc]?=_:=(turned_row ht hch).trans hch
 have hc2:=(hb2.block gc (Array.getElem?_eq_some_iff.1 hc1).1).trans hc1
 refine ⟨?_,?_,h.grp.fresh (idx_none hv),?_,h.once,by have:=h.nk;omega,h.hm,by simp,fun _=>?_,?_⟩
 ·have b1:=below_turned h.bel ht h.hm
  have b2:=b1.trans (hb2.mono b1.size)
  exact below_grown b2 hg (fun b e=>(row_block_of hrow2.row e).1) (Nat.le_refl _)
 ·refine hrow2.push (by rw [hlen,hcells];exact hr) (fun b cur t ht hb=>grown_other hrow2.row hg ht hb)
 ·rw [idx_push hv ⟨e.x/4,e.z/4,none,0,[]⟩ rfl rfl]
  exact grown_map hrow2.row hg (hm.same (hb2.block m hm.lt))
 ·simp
 ·exact (grown_other hrow2.row hg (by decide) hc2).trans hc2
theorem PJ.done {w:World} {l:List Eb} {e:Eb} {m k i:Nat} {wd w':World} {gp cv:Nat} {ps:List Pm} {nm gc:Nat} (h:PJ w l e m k i wd (some ⟨gp,0,none⟩) cv ps nm gc) (hek:l.take (k+1)=l.take k++[e]) (hnd:¬ ∃ q∈l.take k,q.x=e.x∧q.z=e.z) {o:Cg} (hi:i<ps.length) (ho:o.cs=e.cs) (hob:Own wd w.heap.size o.a o.c o.b) (hon:o.n=o.b.length) (hof:∀ z∈o.b,0<=z∧z<=255) (hol:o.b.length<=40000) (hos:I64 o.s)
  {ga cc:Nat} (hrow:w'.ownsRow w.heap.size 145 2 (.slice (some ⟨ga,0,none⟩) (ps[i].l.length+1:Nat) cc) (ps[i].l.length+1) (cgCells ps[i].l++cgc o)) (hg:wd.grownBy w' (Value.ownBlock (.slice ps[i].ca ps[i].l.length ps[i].cc))) (hga:Value.ownBlock (.slice ps[i].ca ps[i].l.length ps[i].cc)=some ga∨ga=wd.heap.size) :
  PI w l m (k+1) (w'.setCell ⟨gp,i*3+2,none⟩ (.slice (some ⟨ga,0,none⟩) (ps[i].l.length+1:Nat) cc)) (some ⟨gp,0,none⟩) cv (ps.set i ⟨ps[i].X,ps[i].Y,some ⟨ga,0,none⟩,cc,ps[i].l++[o]⟩) nm:=by
 have hci:=h.row.ch ps[i] (List.getElem_mem hi)
 have hlen:(ps[i].l++[o]).length=ps[i].l.length+1:=by simp
 have hcells:cgCells (ps[i].l++[o])=cgCells ps[i].l++cgc o:=by simp [cgCells]
 have hdat:∀ q∈ps[i].l++[o],Own wd w.heap.size q.a q.c q.b∧q.n=q.b.length∧I64 q.s∧(∀ z∈q.b,0<=z∧z<=255)∧q.b.length<=40000:=fun q hq=>by
  rcases List.mem_append.1 hq with hq | hq
  ·exact hci.dat q hq
  ·obtain rfl:=List.mem_singleton.1 hq
   exact ⟨hob,hon,hos,hof,hol⟩
 have hC:CRow w.heap.size w' (some ⟨ga,0,none⟩) cc (ps[i].l++[o]):=by
  refine ⟨by rw [hlen,hcells];exact hrow,fun q hq=>?_⟩
  obtain ⟨d1,d2⟩:=hdat q hq
  exact ⟨own_keep d1 (fun b cur hb _ _=>grown_other hci.row hg (by decide) hb),d2⟩
 rcases h.row.form with ⟨h0,_⟩|⟨gp',curp,e1,hBp,hgp,_⟩
 ·cases h0
 cases e1
 have hgp':=grown_other hci.row hg (by decide) hgp
 have hP:=h.row.change (k:=i) hi hgp' hC (fun b hb p hp hpb=>by
  cases hb
  rcases hga with e | e
  ·rcases hci.form with ⟨h1,_⟩|⟨g',_,h1,_⟩
   ·rw [h1] at e;cases e
   ·rw [h1] at e ⊢
    simp only [Value.ownBlock,Option.some.injEq] at e
    rw [e]
  ·exfalso
   rcases (h.row.ch p hp).form with ⟨h1,_⟩|⟨g',cur',h1,_,h2⟩
   ·rw [h1] at hpb;cases hpb
   ·rw [h1] at hpb
    cases hpb
    have:=(Array.getElem?_eq_some_iff.1 h2).1
    omega) (fun b cur hne hb=>hg.block b (Array.getElem?_eq_some_iff.1 hb).1 (fun e=>hne (by
   rcases hci.form with ⟨h1,_⟩|⟨g',_,h1,_⟩
   ·rw [h1] at e;cases e
   ·rw [h1] at e ⊢
    simp only [Value.ownBlock,Option.some.injEq] at e
    rw [e]))) (fun b cur hb=>grown_other hci.row hg (by decide) hb)
 rw [hlen] at hP
 have hbel:Below w.heap.size w w':=below_grown h.bel hg (fun b e=>(row_block_of hci.row e).1) (Nat.le_refl _)
 refine ⟨hbel.setCell (p:=⟨gp,i*3+2,none⟩) hBp _,hP,?_,?_,?_,h.nk,h.hm⟩
 ·rw [hek]
  exact h.grp.add hi (h.at_ hi) ho _ _
 ·rw [regs_set ps hi]
  have hm':=grown_map hci.row hg h.mp
  refine hm'.same (Below.heap_setCell w' _ _ m (fun e=>?_))
  simp only at e
  obtain ⟨_,⟨_,_,h2,_⟩,_⟩:=hm'
  rw [e,hgp',hgp] at h2
  cases h2
 ·rw [hek]
  exact once_add h.once hnd
end Go.Proofs.YtlllmmceoeihkaaGreat
set_option maxRecDepth 20000
namespace Go.Proofs.YtlllmmceoeihkaaGreat
open Go.RowKit
def PartSay (l:List Eb) (w:World) (e:Ending) (w':World):Prop:=Below w.heap.size w w' ∧
 ((¬ Once l∧e = .returned (.tuple #[.slice none 0 0,.int .i64 1])) ∨
  (Once l∧∃ av cv ps,e = .returned (.tuple #[.slice av ps.length cv,.int .i64 0])∧PRow w.heap.size w' av cv ps∧Grp l l ps))
set_option maxHeartbeats 4000000 in
theorem parted_c (a:Option Addr) (n c:Nat) (l:List Eb) (w:World) (hE:EdsAt w a l) (hl:l.length=n) (hn:n<=1000) (hok:∀ e∈l,e.ok) :
  Calls Tryz.prog 47 #[.slice a n c] w (PartSay l w):=by
 obtain ⟨Post,hPost⟩:∃ Post:Ending->World->Prop,Post=PartSay l w:=⟨_,rfl⟩
 rw [<- hPost]
 have HPd:Hid (∀ w',¬ Once l->Below w.heap.size w w'->Post (.returned (.tuple #[.slice none 0 0,.int .i64 1])) w'):=fun w' h1 h2=>by rw [hPost];exact ⟨h2,.inl ⟨h1,rfl⟩⟩
 have HPy:Hid (∀ w' av cv ps,Once l->PRow w.heap.size w' av cv ps->Grp l l ps->Below w.heap.size w w'->Post (.returned (.tuple #[.slice av (ps.length:Nat) cv,.int .i64 0])) w'):=fun w' av cv ps h1 h2 h3 h4=>by rw [hPost];exact ⟨h4,.inr ⟨h1,av,cv,ps,rfl,h2,h3⟩⟩
 clear hPost
 have HE:Hid (EdsAt w a l):=hE
 have Hl:Hid (l.length=n):=hl
 have Hok:Hid (∀ e∈l,e.ok):=hok
 clear hE hl hok
 have hb0:Below w.heap.size w (w.alloc (.map #[] 0)):=(Below.refl _ _).alloc (Nat.le_refl _) _
 have HI0:Hid (PI w l w.heap.size 0 (w.alloc (.map #[] 0)) none 0 [] 0):=⟨hb0,PRow.nil _ _,Grp.nil,RMap.new w,List.Pairwise.nil,Nat.le_refl _,Nat.le_refl _⟩
 clear hb0
 have hmk:(Instr.makeMap 90 none).run Tryz.prog w = .ok (.map (some w.heap.size)) (w.alloc (.map #[] 0)):=by kernel_rfl
 go_enter Tryz.func47,Tryz.ntmps47
 go_wp2
 go_loopw [4,17] (fun pv iv wr=>∃ (k:Nat) (av:Option Addr) (cv:Nat) (ps:List Pm) (nm:Nat),pv = .slice av (ps.length:Nat) cv∧iv = .int .i64 (k:Int)∧k<=n∧Hid (PI w l w.heap.size k wr av cv ps nm)) (fun _ iv _=>n-(intOf iv).toNat)
 case atStart=>exact ⟨0,none,0,[],0,rfl,rfl,Nat.zero_le _,HI0.out⟩
 case round =>
  clear HI0
  obtain ⟨k,av,cv,ps,nm,rfl,rfl,hk,HI⟩:=hrel
  by_cases hlt:k<n
  ·have hlt':(k:Int)<(n:Int):=by omega
   have hkl:k<l.length:=by rw [Hl.out];exact hlt
   obtain ⟨lb,lo,rfl,hat⟩:=(HE.out.on HI.out.bel) k hkl
   obtain ⟨e,he⟩:∃ e,e=l[k]:=⟨_,rfl⟩
   rw [<- he] at hat
   have Hek:Hid (l.take (k+1)=l.take k++[e]):=by show _=_;rw [he];exact List.take_succ_eq_append_getElem hkl
   have hokk:e.ok:=by rw [he];exact Hok.out _ (List.getElem_mem hkl)
   have hx:=hat.ix
   have hz:=hat.iz
   have c0:=hat.c0
   have c1:=hat.c1
   have c2:=hat.c2
   have Hby:Hid (Bytes wr e.a e.n e.b):=hat.by_
   clear hat he
   have HHm:Hid (∀ W,Calls Tryz.prog 52 #[valA e.x e.z] W fun e' w'=>e' = .returned (.tuple #[valA (e.x/4) (e.z/4),.int .i64 (slotN e.x e.z:Int)])∧Below W.heap.size W w'):=fun W=>home_c e.x e.z hx hz W
   have HX4:Hid (I64 (e.x/4)∧I64 (e.z/4)):=⟨div_i64 hx,div_i64 hz⟩
   have HFr:Hid (∀ W,Bytes W e.a e.n e.b->Calls Tryz.prog 30 #[.slice e.a e.n e.c] W fun e' w'=>Below W.heap.size W w'∧e' = .returned (.tuple #[.pointer (some ⟨W.heap.size,0,none⟩),.int .i64 0])∧K.Blk w' W.heap.size 122 e.b):=fun W hW=>(K.from_c e.a e.n e.c e.b W (K.Bytes.src hW.toK) (by rw [<- hW.n,hokk.1];omega)).mono fun e' w' ⟨h1,h2⟩=>by
    rcases h2 with ⟨_,h3,h4⟩|⟨h3,_⟩
    ·exact ⟨h1,h3,h4⟩
    ·exact absurd (mayC_ok hokk.1 hokk.2) h3
   have Hokk:Hid e.ok:=hokk
   clear hx hz hokk
   have hbE:Below wr.heap.size wr (wr.alloc (.cells #[.int .i64 e.x,.int .i64 e.z,.slice e.a e.n e.c] 82)):=(Below.refl _ _).alloc (Nat.le_refl _) _
   have hbx:=heap_alloc_new wr (.cells #[.int .i64 e.x,.int .i64 e.z,.slice e.a e.n e.c] 82)
   have HI1:Hid _:=HI.out.on hbE
   have Hby1:Hid _:=Hby.out.on hbE
   clear hbE Hby HI
   go_wp2_with fail
   clear c0 c1 c2
   generalize wr.alloc (.cells #[.int .i64 e.x,.int .i64 e.z,.slice e.a e.n e.c] 82)=wa at *
   refine (HFr.out _ Hby1.out).mono ?_
   rintro _ w1 ⟨hb1,rfl,hch⟩
   have HI2:Hid _:=HI1.out.on hb1
   have hbx1:=(hb1.block _ (Array.getElem?_eq_some_iff.1 hbx).1).trans hbx
   have b0:w1.cell? ⟨wr.heap.size,0,none⟩=some (.int .i64 e.x):=by rw [cell_of_row w1 _ 0 _ 82 (0,0) hbx1];rfl
   have b1:w1.cell? ⟨wr.heap.size,1,none⟩=some (.int .i64 e.z):=by rw [cell_of_row w1 _ 1 _ 82 (0,0) hbx1];rfl
   obtain ⟨gc,hgc⟩:∃ gc,gc=wa.heap.size:=⟨_,rfl⟩
   rw [<- hgc] at hch ⊢
   have Hch:Hid (K.Blk w1 gc 122 e.b):=hch
   clear hbx hbx1 hb1 HI1 Hby1 HFr hch hgc
   go_wp2_with fail
   refine (HHm.out _).mono ?_
   rintro _ w2 ⟨rfl,hb2⟩
   have hb3:Below w1.heap.size w1 (w2.alloc (.cells #[.int .i64 (e.x/4),.int .i64 (e.z/4)] 39)):=hb2.alloc hb2.size _
   have HI3:Hid _:=HI2.out.on hb3
   have hbn:=heap_alloc_new w2 (.cells #[.int .i64 (e.x/4),.int .i64 (e.z/4)] 39)
   have Hch3:Hid (K.Blk _ gc 122 e.b):=(hb3.block gc (Array.getElem?_eq_some_iff.1 Hch.out).1).trans Hch.out
   have hlk:=HI3.out.mp.look HX4.out.1 HX4.out.2
   clear HI2 Hch hb2 hb3 b0 b1 HHm
   cases hv:idxR (regs ps) (e.x/4) (e.z/4) with
   | some v =>
     rw [hv] at hlk
     obtain ⟨i,rfl,hJ⟩:=HI3.out.found Hch3.out hv
     have HJ:Hid _:=hJ
     have hi:=hJ.lt
     rcases hJ.row.form with ⟨_,h0,_⟩|⟨gp,_,rfl,_,_,hcap,hmx,_,_⟩
     ·rw [h0] at hi;simp at hi
     have hi':(i:Int)<(ps.length:Int):=by omega
     obtain ⟨p0,p1,p2⟩:=hJ.row.cell hi
     have hps:ps.length<=1000:=by have:=hJ.grp.len;simp only [List.length_append,List.length_take,List.length_singleton] at this;omega
     clear hJ HI3 Hch3 hv
     simp only [Option.getD_some,Option.isSome_some] at hlk
     go_wp2_with fail
     clear p0 p1 p2 hlk
     generalize w2.alloc (.cells #[.int .i64 (e.x/4),.int .i64 (e.z/4)] 39)=wc at *
     have hps1:=HJ.out.grp.chs ps[i] (List.getElem_mem hi)
     have hln:ps[i].l.length<=1000:=by
      have h1:=congrArg List.length hps1
      rw [List.length_map,List.length_map] at h1
      have h2:=List.length_filter_le (rgE ps[i].X ps[i].Y) (l.take k)
      rw [List.length_take] at h2
      omega
     have hhas:=has_c ps[i].X ps[i].Y ps[i].ca ps[i].l.length ps[i].cc (slotN e.x e.z:Int) w.heap.size ps[i].l wc hln rfl (HJ.out.row.ch ps[i] (List.getElem_mem hi))
     have Hdup:Hid _:=HJ.out.grp.has hi (HJ.out.at_ hi)
     clear hps1
     refine hhas.mono ?_
     clear hhas
     rintro _ w4 ⟨rfl,hb4⟩
     have HJ4:Hid _:=HJ.out.on hb4
     clear HJ hb4
     cases hd:(ps[i].l.any fun o=>decide (o.s=(slotN e.x e.z:Int))) with
     | true =>
       obtain ⟨q,hq,hqx⟩:=Hdup.out.1 hd
       have R:=HPd.out w4 (fun ho=>once_dup Hek.out hq hqx (once_take ho (k+1))) HJ4.out.bel
       clear HPd HPy HJ4 Hdup HE Hl Hok Hek Hokk HX4 hd hq hqx
       go_wp2
       exact R
     | false =>
       have Hnd:Hid (¬ ∃ q∈l.take k,q.x=e.x∧q.z=e.z):=fun h=>by have:=Hdup.out.2 h;rw [hd] at this;cases this
       have HBy:Hid (∀ W,K.Blk W gc 122 e.b->Calls Tryz.prog 58 #[.pointer (some ⟨gc,0,none⟩)] W fun e' w'=>Below W.heap.size W w'∧∃ a c,e' = .returned (.slice a (datB e.b).length c)∧Own w' W.heap.size a c (datB e.b)):=fun W hW=>bytesOf_c gc e.b W hW Hokk.out.1 Hokk.out.2
       obtain ⟨_,_,p2⟩:=HJ4.out.row.cell hi
       clear Hdup hd HPd HX4
       go_upto_region 17 with fail
       refine Z.region_L (fun u=>u.cell? ⟨gp,i*3+2,none⟩=some (.slice ps[i].ca ps[i].l.length ps[i].cc)) 15 (by kernel_rfl) ?_
       have h_va:(fun u=>u.cell? ⟨gp,i*3+2,none⟩=some (.slice ps[i].ca ps[i].l.length ps[i].cc)) w4.drew:=p2
       have HJa:Hid _:=HJ4.out.on (show Below w4.heap.size w4 w4.drew from ⟨rfl,rfl,rfl,Nat.le_refl _,fun _ _=>rfl⟩)
       clear HJ4 p2
       generalize w4.drew=va at *
       have hne:Nonempty (Z.Sub (fun u=>u.cell? ⟨gp,i*3+2,none⟩=some (.slice ps[i].ca ps[i].l.length ps[i].cc))):=⟨⟨_,h_va⟩⟩
       have q0:∀ s:Z.Sub (fun u=>u.cell? ⟨gp,i*3+2,none⟩=some (.slice ps[i].ca ps[i].l.length ps[i].cc)),s.w.cell? ⟨gp,i*3+2,none⟩=some (.slice ps[i].ca ps[i].l.length ps[i].cc):=fun s=>s.ok
       refine Z.gen_L (by intro d v c a w h;cases d <;> exact h) (fun QX HQP HQX=>?_)
       refine Z.tk 0 rfl HQP h_va fun K hK=>?_;go_simp;refine hK _ ?_;clear hK K
       refine Z.tk 1 rfl HQP h_va fun K hK=>?_;go_simp;refine hK _ ?_;clear hK K
       refine Z.tk 2 rfl HQP h_va fun K hK=>?_;go_simp;refine hK _ ?_;clear hK K
       refine Z.tk 3 rfl HQP h_va fun K hK=>?_;go_simp;refine hK _ ?_;clear hK K
       refine Z.tk 4 rfl HQP h_va fun K hK=>?_;go_simp;refine hK _ ?_;clear hK K
       refine Z.tk 5 rfl HQP h_va fun K hK=>?_;go_simp;refine hK _ ?_;clear hK K
       refine Z.tk 6 rfl HQP h_va fun K hK=>?_;go_simp;refine hK _ ?_;clear hK K
       refine Z.tk 7 rfl HQP h_va fun K hK=>?_;go_simp;refine hK _ ?_;clear hK K
       refine Z.ol 8 rfl fun K hK=>?_
       go_simp
       refine hK.out _ _ (fun _=>h_va) ?_
       clear hK K
       refine Z.ol 9 rfl fun K hK=>?_
       go_simp
       refine (HBy.out _ HJa.out.ch).mono ?_
       rintro _ v1 ⟨hb1,da,dc,rfl,hown⟩
       have h_v1:(fun u=>u.cell? ⟨gp,i*3+2,none⟩=some (.slice ps[i].ca ps[i].l.length ps[i].cc)) v1:=cell_below h_va hb1
       have HJb:Hid _:=HJa.out.on hb1
       have Hown:Hid (Own v1 w.heap.size da dc (datB e.b)):=hown.base HJa.out.bel.size
       refine hK.out _ _ (fun _=>h_v1) ?_
       clear hK K HJa hb1 hown h_va HBy
       refine Z.ol 10 rfl fun K hK=>?_
       go_simp
       refine hK.out _ _ (fun _=>h_v1) ?_
       clear hK K
       refine Z.ol 11 rfl fun K hK=>?_
       go_simp
       have hb2:Below v1.heap.size v1 (v1.alloc (.cells #[.int .i64 (slotN e.x e.z:Int),.slice da (datB e.b).length dc] 145)):=(Below.refl _ _).alloc (Nat.le_refl _) _
       have h_v2:(fun u=>u.cell? ⟨gp,i*3+2,none⟩=some (.slice ps[i].ca ps[i].l.length ps[i].cc)) (v1.alloc (.cells #[.int .i64 (slotN e.x e.z:Int),.slice da (datB e.b).length dc] 145)):=cell_below h_v1 hb2
       have HJc:Hid _:=HJb.out.on hb2
       have Hown2:Hid _:=Hown.out.later hb2
       have hnw:=heap_alloc_new v1 (.cells #[.int .i64 (slotN e.x e.z:Int),.slice da (datB e.b).length dc] 145)
       refine hK.out _ _ (fun _=>h_v2) ?_
       clear hK K HJb Hown hb2 h_v1
       obtain ⟨nb,hnb⟩:∃ nb,nb=v1.heap.size:=⟨_,rfl⟩
       rw [<- hnb] at hnw ⊢
       generalize v1.alloc (.cells #[.int .i64 (slotN e.x e.z:Int),.slice da (datB e.b).length dc] 145)=v2 at *
       clear hnb v1
       refine Z.one_W (i:=12) (by kernel_rfl) rfl (fun K hK=>?_)
       refine wpList_append_one Tryz.underlying141 info145 rfl (by decide) (by decide) rfl _ _ rfl w.heap.size ps[i].ca ps[i].cc ps[i].l.length (cgCells ps[i].l) rfl (HJc.out.row.ch ps[i] (List.getElem_mem hi)).row nb 1 [.int .i64 (slotN e.x e.z:Int),.slice da (datB e.b).length dc] rfl hnw rfl (by intro u hu;simp at hu;rcases hu with rfl | rfl <;> rfl) (by omega) HJc.out.bel.size ?_
       intro ga cc v3 hrow hgr hga hgl
       have hcr:=(HJc.out.row.ch ps[i] (List.getElem_mem hi)).row
       have hprow:=HJc.out.row
       rcases hprow.form with ⟨h0,_⟩|⟨gp',curp,e1,_,hgp,_⟩
       ·cases h0
       cases e1
       have hgp3:=grown_other hcr hgr (by decide) hgp
       have h_v3:(fun u=>u.cell? ⟨gp,i*3+2,none⟩=some (.slice ps[i].ca ps[i].l.length ps[i].cc)) v3:=(World.cell?_of_block (a:=⟨gp,i*3+2,none⟩) hgp3).trans h_v2
       have hfr3:v3.frozen? ⟨gp,i*3+2,none⟩=false:=frozen_of_row v3 gp _ _ 143 (hgp3.trans hgp)
       have HD:Hid _:=HJc.out.done Hek.out Hnd.out (o:=⟨(slotN e.x e.z:Int),da,(datB e.b).length,dc,datB e.b⟩) hi rfl Hown2.out rfl (datb_fit Hokk.out) (datb_len e.b) (slot_i64 e.x e.z) hrow hgr hga
       refine hK.out _ _ (fun _=>h_v3) ?_
       clear hK K HJc hcr hprow hgp hgp3 h_v2 hrow hgr hga hgl Hown2 hnw
       refine Z.ol 13 rfl fun K hK=>?_
       go_simp
       refine hK.out _ _ (fun _=>h_v3) ?_
       clear hK K
       refine Z.ol 14 rfl fun K hK=>?_
       go_simp
       refine hK.out _ _ (fun _=>h_v3) ?_
       clear hK K
       refine Z.ol 15 rfl fun K hK=>?_
       clear hne q0
       go_simp
       refine hK.out _ _ (fun h=>absurd rfl h) ?_
       clear hK K
       refine Z.done_L (by kernel_rfl) ?_ _
       refine HQX.out _ _ ?_
       clear HQX HQP QX
       go_wp2
       go_roundw
       case rel=>exact ⟨k+1,_,_,_,_,by rw [List.length_set],by go_num,by omega,HD.out⟩
       case measure=>simp [intOf];omega
   | none =>
     rw [hv] at hlk
     simp only [Option.getD_none,Option.isSome_none] at hlk
     have hps:ps.length<=1000:=by have:=HI3.out.grp.len;rw [List.length_take] at this;omega
     obtain ⟨wu,hup,hmu,htu⟩:=HI3.out.mp.put (show nm<maxLen by have:=HI3.out.nk;unfold maxLen;omega) HX4.out.1 HX4.out.2 (v:=(ps.length:Int)) ⟨by omega,by omega⟩
     have k0:=cell_of_row _ w2.heap.size 0 _ 39 (0,0) hbn
     have k1:=cell_of_row _ w2.heap.size 1 _ 39 (0,0) hbn
     have hbu:=(turned_row htu hbn).trans hbn
     have u0:wu.cell? ⟨w2.heap.size,0,none⟩=some (.int .i64 (e.x/4)):=by rw [cell_of_row wu _ 0 _ 39 (0,0) hbu];rfl
     have u1:wu.cell? ⟨w2.heap.size,1,none⟩=some (.int .i64 (e.z/4)):=by rw [cell_of_row wu _ 1 _ 39 (0,0) hbu];rfl
     have Hmu:Hid _:=hmu
     have Htu:Hid _:=htu
     have Hv:Hid _:=hv
     clear hmu htu hv k0 k1 hbu hbn
     have hbw:Below wu.heap.size wu (wu.alloc (.cells #[.int .i64 (e.x/4),.int .i64 (e.z/4),.slice none 0 0] 143)):=(Below.refl _ _).alloc (Nat.le_refl _) _
     have Hbw:Hid _:=hbw
     have Hrow:Hid (PRow w.heap.size (wu.alloc (.cells #[.int .i64 (e.x/4),.int .i64 (e.z/4),.slice none 0 0] 143)) av cv ps):=(HI3.out.row.keep (fun b cur t _ hb=>turned_row Htu.out hb)).on hbw
     have Hnb:Hid _:=heap_alloc_new wu (.cells #[.int .i64 (e.x/4),.int .i64 (e.z/4),.slice none 0 0] 143)
     have Hsz:Hid (w.heap.size<=(wu.alloc (.cells #[.int .i64 (e.x/4),.int .i64 (e.z/4),.slice none 0 0] 143)).heap.size):=Nat.le_trans HI3.out.bel.size (Nat.le_trans (World.mapTurned.grown Htu.out).size hbw.size)
     clear hbw
     go_wp2_with (at_builtin;refine wpList_append_one Tryz.underlying106 info143 rfl (by decide) (by decide) rfl _ _ rfl w.heap.size av cv ps.length (pmCells ps) rfl Hrow.out.row wu.heap.size 1 [.int .i64 (e.x/4),.int .i64 (e.z/4),.slice none 0 0] rfl Hnb.out rfl (by intro u hu;simp at hu;rcases hu with rfl | rfl | rfl <;> rfl) (by omega) Hsz.out ?_;clear Hnb Hsz;intro gp cv2 w3 hrow3 hgr3 _ _;have HJ:Hid _:=HI3.out.fresh Hch3.out Hv.out Hmu.out Htu.out Hbw.out hrow3 hgr3;clear HI3 Hch3 Hv Hmu Htu Hbw Hrow hrow3 hgr3 u0 u1 hup;have hi:=HJ.out.lt;have hi':(ps.length:Int)<((ps.length+1:Nat):Int):=(by omega);obtain ⟨p0,p1,p2⟩:=HJ.out.row.cell hi;obtain ⟨hcap,hmx⟩:=PRow.cap HJ.out.row hi;have hpl:(ps++[(⟨e.x/4,e.z/4,none,0,[]⟩:Pm)]).length=ps.length+1:=(by simp);rw [hpl] at hcap)
     clear p0 p1 p2
     obtain ⟨i,hie⟩:∃ i,i=ps.length:=⟨_,rfl⟩
     rw [<- hie] at HJ hi hi' hps hcap hpl ⊢
     have hpi:(ps++[(⟨e.x/4,e.z/4,none,0,[]⟩:Pm)])[i]=⟨e.x/4,e.z/4,none,0,[]⟩:=by subst hie;simp
     generalize ps++[(⟨e.x/4,e.z/4,none,0,[]⟩:Pm)]=pz at *
     clear hie
     have hi2:(i:Int)<(i:Int)+1:=by omega
     generalize w3=wc at *
     have hps1:=HJ.out.grp.chs pz[i] (List.getElem_mem hi)
     have hln:pz[i].l.length<=1000:=by
      have h1:=congrArg List.length hps1
      rw [List.length_map,List.length_map] at h1
      have h2:=List.length_filter_le (rgE pz[i].X pz[i].Y) (l.take k)
      rw [List.length_take] at h2
      omega
     have hhas:=has_c (e.x/4) (e.z/4) none 0 0 (slotN e.x e.z:Int) w.heap.size pz[i].l wc (by omega) (by rw [hpi];rfl) (by have h:=HJ.out.row.ch pz[i] (List.getElem_mem hi);rw [hpi] at h ⊢;exact h)
     have Hdup:Hid _:=HJ.out.grp.has hi (HJ.out.at_ hi)
     clear hps1
     clear hpi
     refine hhas.mono ?_
     clear hhas
     rintro _ w4 ⟨rfl,hb4⟩
     have HJ4:Hid _:=HJ.out.on hb4
     clear HJ hb4
     cases hd:(pz[i].l.any fun o=>decide (o.s=(slotN e.x e.z:Int))) with
     | true =>
       obtain ⟨q,hq,hqx⟩:=Hdup.out.1 hd
       have R:=HPd.out w4 (fun ho=>once_dup Hek.out hq hqx (once_take ho (k+1))) HJ4.out.bel
       clear HPd HPy HJ4 Hdup HE Hl Hok Hek Hokk HX4 hd hq hqx
       go_wp2
       exact R
     | false =>
       have Hnd:Hid (¬ ∃ q∈l.take k,q.x=e.x∧q.z=e.z):=fun h=>by have:=Hdup.out.2 h;rw [hd] at this;cases this
       have HBy:Hid (∀ W,K.Blk W gc 122 e.b->Calls Tryz.prog 58 #[.pointer (some ⟨gc,0,none⟩)] W fun e' w'=>Below W.heap.size W w'∧∃ a c,e' = .returned (.slice a (datB e.b).length c)∧Own w' W.heap.size a c (datB e.b)):=fun W hW=>bytesOf_c gc e.b W hW Hokk.out.1 Hokk.out.2
       obtain ⟨_,_,p2⟩:=HJ4.out.row.cell hi
       clear Hdup hd HPd HX4
       go_upto_region 17 with fail
       refine Z.region_L (fun u=>u.cell? ⟨gp,i*3+2,none⟩=some (.slice pz[i].ca pz[i].l.length pz[i].cc)) 15 (by kernel_rfl) ?_
       have h_va:(fun u=>u.cell? ⟨gp,i*3+2,none⟩=some (.slice pz[i].ca pz[i].l.length pz[i].cc)) w4.drew:=p2
       have HJa:Hid _:=HJ4.out.on (show Below w4.heap.size w4 w4.drew from ⟨rfl,rfl,rfl,Nat.le_refl _,fun _ _=>rfl⟩)
       clear HJ4 p2
       generalize w4.drew=va at *
       have hne:Nonempty (Z.Sub (fun u=>u.cell? ⟨gp,i*3+2,none⟩=some (.slice pz[i].ca pz[i].l.length pz[i].cc))):=⟨⟨_,h_va⟩⟩
       have q0:∀ s:Z.Sub (fun u=>u.cell? ⟨gp,i*3+2,none⟩=some (.slice pz[i].ca pz[i].l.length pz[i].cc)),s.w.cell? ⟨gp,i*3+2,none⟩=some (.slice pz[i].ca pz[i].l.length pz[i].cc):=fun s=>s.ok
       refine Z.gen_L (by intro d v c a w h;cases d <;> exact h) (fun QX HQP HQX=>?_)
       refine Z.tk 0 rfl HQP h_va fun K hK=>?_;go_simp;refine hK _ ?_;clear hK K
       refine Z.tk 1 rfl HQP h_va fun K hK=>?_;go_simp;refine hK _ ?_;clear hK K
       refine Z.tk 2 rfl HQP h_va fun K hK=>?_;go_simp;refine hK _ ?_;clear hK K
       refine Z.tk 3 rfl HQP h_va fun K hK=>?_;go_simp;refine hK _ ?_;clear hK K
       refine Z.tk 4 rfl HQP h_va fun K hK=>?_;go_simp;refine hK _ ?_;clear hK K
       refine Z.tk 5 rfl HQP h_va fun K hK=>?_;go_simp;refine hK _ ?_;clear hK K
       refine Z.tk 6 rfl HQP h_va fun K hK=>?_;go_simp;refine hK _ ?_;clear hK K
       refine Z.tk 7 rfl HQP h_va fun K hK=>?_;go_simp;refine hK _ ?_;clear hK K
       refine Z.ol 8 rfl fun K hK=>?_
       go_simp
       refine hK.out _ _ (fun _=>h_va) ?_
       clear hK K
       refine Z.ol 9 rfl fun K hK=>?_
       go_simp
       refine (HBy.out _ HJa.out.ch).mono ?_
       rintro _ v1 ⟨hb1,da,dc,rfl,hown⟩
       have h_v1:(fun u=>u.cell? ⟨gp,i*3+2,none⟩=some (.slice pz[i].ca pz[i].l.length pz[i].cc)) v1:=cell_below h_va hb1
       have HJb:Hid _:=HJa.out.on hb1
       have Hown:Hid (Own v1 w.heap.size da dc (datB e.b)):=hown.base HJa.out.bel.size
       refine hK.out _ _ (fun _=>h_v1) ?_
       clear hK K HJa hb1 hown h_va HBy
       refine Z.ol 10 rfl fun K hK=>?_
       go_simp
       refine hK.out _ _ (fun _=>h_v1) ?_
       clear hK K
       refine Z.ol 11 rfl fun K hK=>?_
       go_simp
       have hb2:Below v1.heap.size v1 (v1.alloc (.cells #[.int .i64 (slotN e.x e.z:Int),.slice da (datB e.b).length dc] 145)):=(Below.refl _ _).alloc (Nat.le_refl _) _
       have h_v2:(fun u=>u.cell? ⟨gp,i*3+2,none⟩=some (.slice pz[i].ca pz[i].l.length pz[i].cc)) (v1.alloc (.cells #[.int .i64 (slotN e.x e.z:Int),.slice da (datB e.b).length dc] 145)):=cell_below h_v1 hb2
       have HJc:Hid _:=HJb.out.on hb2
       have Hown2:Hid _:=Hown.out.later hb2
       have hnw:=heap_alloc_new v1 (.cells #[.int .i64 (slotN e.x e.z:Int),.slice da (datB e.b).length dc] 145)
       refine hK.out _ _ (fun _=>h_v2) ?_
       clear hK K HJb Hown hb2 h_v1
       obtain ⟨nb,hnb⟩:∃ nb,nb=v1.heap.size:=⟨_,rfl⟩
       rw [<- hnb] at hnw ⊢
       generalize v1.alloc (.cells #[.int .i64 (slotN e.x e.z:Int),.slice da (datB e.b).length dc] 145)=v2 at *
       clear hnb v1
       refine Z.one_W (i:=12) (by kernel_rfl) rfl (fun K hK=>?_)
       refine wpList_append_one Tryz.underlying141 info145 rfl (by decide) (by decide) rfl _ _ rfl w.heap.size pz[i].ca pz[i].cc pz[i].l.length (cgCells pz[i].l) rfl (HJc.out.row.ch pz[i] (List.getElem_mem hi)).row nb 1 [.int .i64 (slotN e.x e.z:Int),.slice da (datB e.b).length dc] rfl hnw rfl (by intro u hu;simp at hu;rcases hu with rfl | rfl <;> rfl) (by omega) HJc.out.bel.size ?_
       intro ga cc v3 hrow hgr hga hgl
       have hcr:=(HJc.out.row.ch pz[i] (List.getElem_mem hi)).row
       have hprow:=HJc.out.row
       rcases hprow.form with ⟨h0,_⟩|⟨gp',curp,e1,_,hgp,_⟩
       ·cases h0
       cases e1
       have hgp3:=grown_other hcr hgr (by decide) hgp
       have h_v3:(fun u=>u.cell? ⟨gp,i*3+2,none⟩=some (.slice pz[i].ca pz[i].l.length pz[i].cc)) v3:=(World.cell?_of_block (a:=⟨gp,i*3+2,none⟩) hgp3).trans h_v2
       have hfr3:v3.frozen? ⟨gp,i*3+2,none⟩=false:=frozen_of_row v3 gp _ _ 143 (hgp3.trans hgp)
       have HD:Hid _:=HJc.out.done Hek.out Hnd.out (o:=⟨(slotN e.x e.z:Int),da,(datB e.b).length,dc,datB e.b⟩) hi rfl Hown2.out rfl (datb_fit Hokk.out) (datb_len e.b) (slot_i64 e.x e.z) hrow hgr hga
       refine hK.out _ _ (fun _=>h_v3) ?_
       clear hK K HJc hcr hprow hgp hgp3 h_v2 hrow hgr hga hgl Hown2 hnw
       refine Z.ol 13 rfl fun K hK=>?_
       go_simp
       refine hK.out _ _ (fun _=>h_v3) ?_
       clear hK K
       refine Z.ol 14 rfl fun K hK=>?_
       go_simp
       refine hK.out _ _ (fun _=>h_v3) ?_
       clear hK K
       refine Z.ol 15 rfl fun K hK=>?_
       clear hne q0
       go_simp
       refine hK.out _ _ (fun h=>absurd rfl h) ?_
       clear hK K
       refine Z.done_L (by kernel_rfl) ?_ _
       refine HQX.out _ _ ?_
       clear HQX HQP QX
       go_wp2
       go_roundw
       case rel=>exact ⟨k+1,_,_,_,_,by rw [List.length_set,hpl],by go_num,by omega,HD.out⟩
       case measure=>simp [intOf];omega
  ·have hkn:k=n:=by omega
   have htk:l.take k=l:=List.take_of_length_le (by rw [Hl.out];omega)
   have hg:=HI.out.grp
   have ho:=HI.out.once
   rw [htk] at hg ho
   have R:=HPy.out wr av cv ps ho HI.out.row hg HI.out.bel
   clear HI HE Hl Hok HPd HPy hg ho htk
   go_wp2
   exact R
end Go.Proofs.YtlllmmceoeihkaaGreat
set_option maxRecDepth 20000
namespace Go.Proofs.YtlllmmceoeihkaaGreat
open Go.RowKit
structure PlanAt (V:List Bk) (E:Ed) (B:Nat) (w:World) (av:Option Addr) (v:Value) (p:Pm):Prop where
 it:∃ qr qp g F sp,v = .func (.func 73) #[] #[.pointer (some ⟨qr,0,none⟩),.pointer (some ⟨qp,0,none⟩)]∧w.heap[qr]?=some (.cells #[.pointer (some ⟨g,0,none⟩)] 73 (0,0))∧w.heap[qp]?=some (.cells #[.int .i64 p.X,.int .i64 p.Y,.slice p.ca p.l.length p.cc] 143 (0,0))∧RGs F w g ⟨p.X,p.Y,sp,regD E p.X p.Y⟩∧OnD V ⟨p.X,p.Y,sp,regD E p.X p.Y⟩∧∀ k,F k->av≠some ⟨k,0,none⟩
 cr:CRow B w p.ca p.cc p.l
theorem PlanAt.on {V:List Bk} {E:Ed} {B:Nat} {w w':World} {av:Option Addr} {v:Value} {p:Pm} (h:PlanAt V E B w av v p) (hb:Below w.heap.size w w'):PlanAt V E B w' av v p:=by
 obtain ⟨⟨qr,qp,g,F,sp,h1,h2,h3,h4,hV,h6⟩,h5⟩:=h
 exact ⟨⟨qr,qp,g,F,sp,h1,(hb.block qr (Array.getElem?_eq_some_iff.1 h2).1).trans h2,(hb.block qp (Array.getElem?_eq_some_iff.1 h3).1).trans h3,h4.keep (fun k hk=>hb.block k (h4.lt k hk)) hb.size,hV,h6⟩,h5.on hb⟩
theorem PlanAt.grown {V:List Bk} {E:Ed} {B B':Nat} {w w':World} {av:Option Addr} {v:Value} {p:Pm} (h:PlanAt V E B w av v p) {n c g':Nat} {cs:List Value} (ho:w.ownsRow B' 149 1 (.slice av n c) n cs) (hg:w.grownBy w' (Value.ownBlock (.slice av n c))) (hga:Value.ownBlock (.slice av n c)=some g'∨g'=w.heap.size):PlanAt V E B w' (some ⟨g',0,none⟩) v p:=by
 obtain ⟨⟨qr,qp,g,F,sp,h1,h2,h3,h4,hV,h6⟩,h5⟩:=h
 have hav:∀ k,Value.ownBlock (.slice av n c)=some k->av=some ⟨k,0,none⟩:=fun k hk=>by
  rcases ho.2 with ⟨e,_⟩|⟨q,c',cur,e,_⟩
  ·rw [e] at hk;cases hk
  ·rw [e] at hk
   simp only [Value.slice.injEq] at e
   simp only [Value.ownBlock,Option.some.injEq] at hk
   rw [e.1,hk]
 refine ⟨⟨qr,qp,g,F,sp,h1,(grown_other ho hg (by decide) h2).trans h2,(grown_other ho hg (by decide) h3).trans h3,h4.keep (fun k hk=>hg.block k (h4.lt k hk) (fun e=>h6 k hk (hav k e.symm))) hg.size,hV,fun k hk e=>?_⟩,h5.keep (fun b cur _ hb=>grown_other ho hg (by decide) hb) (fun b cur _ hb=>grown_other ho hg (by decide) hb)⟩
 cases e
 rcases hga with e | e
 ·exact h6 g' hk (hav g' e)
 ·have:=h4.lt g' hk
  omega
def ClSay (V:List Bk) (E:Ed) (p:Pm) (w:World) (e:Ending) (w':World):Prop:=Below w.heap.size w w' ∧
 (((planS (regD E p.X p.Y) (p.l.map Cg.cs)).1≠0∧∃ pa pc,e = .returned (.tuple #[.slice pa 0 pc,.int .i64 (planS (regD E p.X p.Y) (p.l.map Cg.cs)).1])) ∨
  ((planS (regD E p.X p.Y) (p.l.map Cg.cs)).1=0∧∃ pa pc ps,e = .returned (.tuple #[.slice pa ps.length pc,.int .i64 0]) ∧
   OwnPb w' w.heap.size pa pc (2,p.X,p.Y) ps∧PbRows w.heap.size w' ps∧PgOk V ⟨p.X,p.Y,(planS (regD E p.X p.Y) (p.l.map Cg.cs)).2,ps⟩))
theorem clo_c {V:List Bk} {E:Ed} {w:World} {qr qp g:Nat} {F:Nat->Prop} {sp:List Sp} {p:Pm} (h2:w.heap[qr]?=some (.cells #[.pointer (some ⟨g,0,none⟩)] 73 (0,0))) (h3:w.heap[qp]?=some (.cells #[.int .i64 p.X,.int .i64 p.Y,.slice p.ca p.l.length p.cc] 143 (0,0))) (hG:RGs F w g ⟨p.X,p.Y,sp,regD E p.X p.Y⟩) (hV:OnD V ⟨p.X,p.Y,sp,regD E p.X p.Y⟩) (hC:CgsAt w p.ca p.l) (hM:p.l.length<=maxLen) :
  Calls Tryz.prog 73 #[.pointer (some ⟨qr,0,none⟩),.pointer (some ⟨qp,0,none⟩)] w (ClSay V E p w):=by
 obtain ⟨Post,hPost⟩:∃ Post:Ending->World->Prop,Post=ClSay V E p w:=⟨_,rfl⟩
 rw [<- hPost]
 have hp:=plan2_c F g ⟨p.X,p.Y,sp,regD E p.X p.Y⟩ p.ca p.l.length p.cc p.l w hG hC rfl hM
 have HN:Hid (∀ w' pa pc v,(planS (regD E p.X p.Y) (p.l.map Cg.cs)).1=v->v≠0->Below w.heap.size w w'->Post (.returned (.tuple #[.slice pa 0 pc,.int .i64 v])) w'):=fun w' pa pc v h1 h2 h3=>by rw [hPost];subst h1;exact ⟨h3,.inl ⟨h2,pa,pc,rfl⟩⟩
 have HY:Hid (∀ w' pa pc sp' ps,(planS (regD E p.X p.Y) (p.l.map Cg.cs)).1=0->GoodR sp' (planS (regD E p.X p.Y) (p.l.map Cg.cs)).2->OwnPb w' w.heap.size pa pc (2,p.X,p.Y) ps->PbRows w.heap.size w' ps->PsOk ps->(∀ L',Good L'->OnD L' ⟨p.X,p.Y,sp,regD E p.X p.Y⟩->OnD (putAll (2,p.X,p.Y) L' ps) ⟨p.X,p.Y,sp',(planS (regD E p.X p.Y) (p.l.map Cg.cs)).2⟩)->Below w.heap.size w w'->Post (.returned (.tuple #[.slice pa (ps.length:Nat) pc,.int .i64 0])) w'):=fun w' pa pc sp' ps h1 h2 h3 h4 h5 h6 h7=>by rw [hPost];exact ⟨h7,.inr ⟨h1,pa,pc,ps,rfl,h3,h4,h5,sp,regD E p.X p.Y,sp',hV,h2,h6⟩⟩
 clear hPost hG hC hM
 have c0:w.cell? ⟨qr,0,none⟩=some (.pointer (some ⟨g,0,none⟩)):=by rw [cell_of_row w qr 0 _ 73 (0,0) h2];rfl
 have c1:w.cell? ⟨qp,2,none⟩=some (.slice p.ca p.l.length p.cc):=by rw [cell_of_row w qp 2 _ 143 (0,0) h3];rfl
 clear h2 h3
 go_enter Tryz.func73,Tryz.ntmps73
 go_wp2_with (go_at_call 74;refine hp.mono ?_;clear hp;rintro _ w1 ⟨hb,⟨h1,pa,pc,rfl⟩|⟨h1,pa,pc,g',sp',ps,rfl,k1,k2,k3,k4,k5⟩⟩)
 ·exact HN.out w1 pa pc _ rfl h1 hb
 ·exact HY.out w1 pa pc sp' ps h1 k1 k2 k3 k4 k5 hb
def PlansSay (S:St) (V:List Bk) (E:Ed) (B:Nat) (ps:List Pm) (w:World) (e:Ending) (w':World):Prop:=Below w.heap.size w w' ∧
 ((S.out=true∧ps≠[]∧e = .returned (.tuple #[.slice none 0 0,.int .i64 8])) ∨
  (¬ (S.out=true∧ps≠[])∧∃ fv fc vs,e = .returned (.tuple #[.slice fv ps.length fc,.int .i64 0])∧w'.ownsRow w.heap.size 149 1 (.slice fv ps.length fc) ps.length vs∧∀ i (h:i<ps.length) (h':i<vs.length),PlanAt V E B w' fv vs[i] ps[i]))
structure PL (V:List Bk) (E:Ed) (B:Nat) (ps:List Pm) (w:World) (k:Nat) (wr:World) (fv:Option Addr) (fc:Nat) (vs:List Value):Prop where
 bel:Below w.heap.size w wr
 row:wr.ownsRow w.heap.size 149 1 (.slice fv k fc) k vs
 at_:∀ i (h:i<ps.length) (h':i<vs.length),PlanAt V E B wr fv vs[i] ps[i]
theorem info149:(Tryz.prog.info? 149).map (fun i=>(i.zero,i.size,i.bytes))=some (some .nilFunc,1,8):=by kernel_rfl
theorem PL.next {V:List Bk} {E:Ed} {B:Nat} {ps:List Pm} {w:World} {k:Nat} {wr w1 w3:World} {fv:Option Addr} {fc:Nat} {vs:List Value} (h:PL V E B ps w k wr fv fc vs) (hb:Below wr.heap.size wr w1) {v:Value} (hk:k<ps.length) (hvl:vs.length=k) (hP:∀ av,(∀ q,av=some ⟨q,0,none⟩->q<wr.heap.size)->PlanAt V E B w1 av v ps[k]) {g c':Nat} (hr:w3.ownsRow w.heap.size 149 1 (.slice (some ⟨g,0,none⟩) (k+1:Nat) c') (k+1) (vs++[v])) (hg:w1.grownBy w3 (Value.ownBlock (.slice fv k fc))) (hga:Value.ownBlock (.slice fv k fc)=some g∨g=w1.heap.size) :
  PL V E B ps w (k+1) w3 (some ⟨g,0,none⟩) c' (vs++[v]):=by
 have hrow1:w1.ownsRow w.heap.size 149 1 (.slice fv k fc) k vs:=own_keep h.row (fun b cur hb1 _ _=>hb.block b (Array.getElem?_eq_some_iff.1 hb1).1)
 refine ⟨below_grown (h.bel.trans (hb.mono h.bel.size)) hg (fun b e=>(row_block_of hrow1 e).1) (Nat.le_refl _),hr,fun i hi hi'=>?_⟩
 by_cases e:i<vs.length
 ·rw [List.getElem_append_left e]
  exact ((h.at_ i hi e).on hb).grown hrow1 hg hga
 ·have hik:i=k:=by simp at hi';omega
  subst hik
  rw [List.getElem_append_right (by omega)]
  simp only [hvl,Nat.sub_self,List.getElem_singleton]
  refine (hP fv (fun q hq=>?_)).grown hrow1 hg hga
  rcases h.row.2 with ⟨e1,_⟩|⟨q',c2,cur,e1,_,hq2,_⟩
  ·simp only [Value.slice.injEq] at e1
   rw [e1.1] at hq;cases hq
  ·simp only [Value.slice.injEq] at e1
   rw [e1.1] at hq
   cases hq
   exact (Array.getElem?_eq_some_iff.1 hq2).1
set_option maxHeartbeats 4000000 in
theorem plans_c {F:Nat->Prop} {w:World} {s d m n:Nat} {S:St} {V:List Bk} {R:Rf} (h:SO F w s d m n S V R) {E:Ed} (hE:Has V E) {B:Nat} {av:Option Addr} {cv:Nat} {ps:List Pm} (hR:PRow B w av cv ps) (hi:∀ p∈ps,I64 p.X∧I64 p.Y) (hn:ps.length<=1000) :
  Calls Tryz.prog 48 #[.pointer (some ⟨s,0,none⟩),.slice av (ps.length:Nat) cv] w (PlansSay S V E B ps w):=by
 obtain ⟨Post,hPost⟩:∃ Post:Ending->World->Prop,Post=PlansSay S V E B ps w:=⟨_,rfl⟩
 rw [<- hPost]
 have H8:Hid (∀ w',S.out=true->ps≠[]->Below w.heap.size w w'->Post (.returned (.tuple #[.slice none 0 0,.int .i64 8])) w'):=fun w' h1 h2 h3=>by rw [hPost];exact ⟨h3,.inl ⟨h1,h2,rfl⟩⟩
 have HY:Hid (∀ w' fv fc vs,¬ (S.out=true∧ps≠[])->w'.ownsRow w.heap.size 149 1 (.slice fv ps.length fc) ps.length vs->(∀ i (h:i<ps.length) (h':i<vs.length),PlanAt V E B w' fv vs[i] ps[i])->Below w.heap.size w w'->Post (.returned (.tuple #[.slice fv (ps.length:Nat) fc,.int .i64 0])) w'):=fun w' fv fc vs h1 h2 h3 h4=>by rw [hPost];exact ⟨h4,.inr ⟨h1,fv,fc,vs,rfl,h2,h3⟩⟩
 clear hPost
 have HS:Hid (SO F w s d m n S V R):=h
 have HR:Hid (PRow B w av cv ps):=hR
 have HRg:Hid (∀ W,Below w.heap.size w W->∀ k (hk:k<ps.length),Calls Tryz.prog 33 #[.pointer (some ⟨s,0,none⟩),.int .i64 ps[k].X,.int .i64 ps[k].Y] W (RegSay S V E ps[k].X ps[k].Y W)):=fun W hb k hk=>region_c (h.on hb) hE _ _ (hi _ (List.getElem_mem hk)).1 (hi _ (List.getElem_mem hk)).2
 have HI0:Hid (PL V E B ps w 0 w none 0 []):=⟨Below.refl _ _,World.ownsRow_nil w w.heap.size 149 1,fun i _ h'=>absurd h' (Nat.not_lt_zero _)⟩
 have Hps:Hid (¬ (S.out=true∧ps≠[])∨ps≠[]):=by
  by_cases e:ps=[]
  ·exact .inl (fun h=>h.2 e)
  ·exact .inr e
 have HM:Hid (∀ W,(Instr.makeFunc (.func 73) #[] #[]).run Tryz.prog W=(Instr.makeFunc (.func 73) #[] #[]).run Tryz.prog W):=fun _=>rfl
 clear h hR hE hi HM
 have hmf:∀ fn first cap W,(Instr.makeFunc fn first cap).run Tryz.prog W = .ok (.func fn first cap) W:=fun _ _ _ _=>rfl
 go_enter Tryz.func48,Tryz.ntmps48
 go_wp2
 go_loopw [6,13] (fun pv iv wr=>∃ (k:Nat) (fv:Option Addr) (fc:Nat) (vs:List Value),pv = .slice fv (k:Nat) fc∧iv = .int .i64 (k:Int)∧k<=ps.length∧Hid (vs.length=k∧(0<k->S.out=false)∧PL V E B ps w k wr fv fc vs)) (fun _ iv _=>ps.length-(intOf iv).toNat)
 case atStart=>exact ⟨0,none,0,[],rfl,rfl,Nat.zero_le _,rfl,fun h=>by omega,HI0.out⟩
 case round =>
  clear HI0
  obtain ⟨k,fv,fc,vs,rfl,rfl,hk,HI⟩:=hrel
  by_cases hlt:k<ps.length
  ·have hlt':(k:Int)<(ps.length:Int):=by omega
   rcases HR.out.form with ⟨_,h0,_⟩|⟨gp,_,rfl,_⟩
   ·rw [h0] at hlt;simp at hlt
   obtain ⟨p0,p1,p2⟩:=(HR.out.on HI.out.2.2.bel).cell hlt
   have HC:Hid (∀ W,Below w.heap.size w W->CRow B W ps[k].ca ps[k].cc ps[k].l):=fun W hb=>(HR.out.ch _ (List.getElem_mem hlt)).on hb
   have hne:ps≠[]:=fun e=>by rw [e] at hlt;simp at hlt
   go_wp2_with fail
   clear p0 p1 p2
   have hbE:Below wr.heap.size wr (wr.alloc (.cells #[.int .i64 ps[k].X,.int .i64 ps[k].Y,.slice ps[k].ca ps[k].l.length ps[k].cc] 143)):=(Below.refl _ _).alloc (Nat.le_refl _) _
   have hbx:=heap_alloc_new wr (.cells #[.int .i64 ps[k].X,.int .i64 ps[k].Y,.slice ps[k].ca ps[k].l.length ps[k].cc] 143)
   have hbl:=HI.out.2.2.bel.trans (hbE.mono HI.out.2.2.bel.size)
   refine (HRg.out _ hbl k hlt).mono ?_
   generalize wr.alloc (.cells #[.int .i64 ps[k].X,.int .i64 ps[k].Y,.slice ps[k].ca ps[k].l.length ps[k].cc] 143)=wa at *
   rintro _ w1 ⟨hb1,⟨ho,rfl⟩|⟨ho,g,F',sp,rfl,hG,hon,hF⟩⟩
   ·have R:=H8.out (w1.alloc (.cells #[.pointer none] 73)) ho hne ((hbl.trans (hb1.mono hbl.size)).alloc (Nat.le_trans hbl.size hb1.size) _)
    clear HI HS HR HRg H8 HY Hps HC hbE hbx hbl hb1
    go_wp2
    exact R
   ·have hbx1:=(hb1.block _ (Array.getElem?_eq_some_iff.1 hbx).1).trans hbx
    have hb2:Below w1.heap.size w1 (w1.alloc (.cells #[.pointer (some ⟨g,0,none⟩)] 73)):=(Below.refl _ _).alloc (Nat.le_refl _) _
    have hbr:=heap_alloc_new w1 (.cells #[.pointer (some ⟨g,0,none⟩)] 73)
    have hb3:Below w1.heap.size w1 ((w1.alloc (.cells #[.pointer (some ⟨g,0,none⟩)] 73)).alloc (.cells #[.func (.func 73) #[] #[.pointer (some ⟨w1.heap.size,0,none⟩),.pointer (some ⟨wr.heap.size,0,none⟩)]] 149)):=hb2.alloc hb2.size _
    have hb4:Below (w1.alloc (.cells #[.pointer (some ⟨g,0,none⟩)] 73)).heap.size (w1.alloc (.cells #[.pointer (some ⟨g,0,none⟩)] 73)) ((w1.alloc (.cells #[.pointer (some ⟨g,0,none⟩)] 73)).alloc (.cells #[.func (.func 73) #[] #[.pointer (some ⟨w1.heap.size,0,none⟩),.pointer (some ⟨wr.heap.size,0,none⟩)]] 149)):=(Below.refl _ _).alloc (Nat.le_refl _) _
    have hbw:Below wr.heap.size wr ((w1.alloc (.cells #[.pointer (some ⟨g,0,none⟩)] 73)).alloc (.cells #[.func (.func 73) #[] #[.pointer (some ⟨w1.heap.size,0,none⟩),.pointer (some ⟨wr.heap.size,0,none⟩)]] 149)):=(hbE.trans (hb1.mono hbE.size)).trans (hb3.mono (Nat.le_trans hbE.size hb1.size))
    have HB:Hid _:=hbw
    have HRo:Hid (((w1.alloc (.cells #[.pointer (some ⟨g,0,none⟩)] 73)).alloc (.cells #[.func (.func 73) #[] #[.pointer (some ⟨w1.heap.size,0,none⟩),.pointer (some ⟨wr.heap.size,0,none⟩)]] 149)).ownsRow w.heap.size 149 1 (.slice fv k fc) k vs):=own_keep HI.out.2.2.row (fun b cur hb _ _=>hbw.block b (Array.getElem?_eq_some_iff.1 hb).1)
    have HP:Hid (∀ av',(∀ q,av'=some ⟨q,0,none⟩->q<wr.heap.size)->PlanAt V E B ((w1.alloc (.cells #[.pointer (some ⟨g,0,none⟩)] 73)).alloc (.cells #[.func (.func 73) #[] #[.pointer (some ⟨w1.heap.size,0,none⟩),.pointer (some ⟨wr.heap.size,0,none⟩)]] 149)) av' (.func (.func 73) #[] #[.pointer (some ⟨w1.heap.size,0,none⟩),.pointer (some ⟨wr.heap.size,0,none⟩)]) ps[k]):=fun av' hav=>by
     refine ⟨⟨w1.heap.size,wr.heap.size,g,F',sp,rfl,(hb4.block _ (Array.getElem?_eq_some_iff.1 hbr).1).trans hbr,(hb3.block _ (Array.getElem?_eq_some_iff.1 hbx1).1).trans hbx1,hG.keep (fun q hq=>hb3.block q (hG.lt q hq)) hb3.size,hon,fun q hq e=>?_⟩,HC.out _ (HI.out.2.2.bel.trans (hbw.mono HI.out.2.2.bel.size))⟩
     have h1:=hF q hq
     have h2:=hav q e
     have h3:=hbE.size
     omega
    have hnb:=heap_alloc_new (w1.alloc (.cells #[.pointer (some ⟨g,0,none⟩)] 73)) (.cells #[.func (.func 73) #[] #[.pointer (some ⟨w1.heap.size,0,none⟩),.pointer (some ⟨wr.heap.size,0,none⟩)]] 149)
    rw [World.size_alloc] at hnb
    have Hnb:Hid _:=hnb
    clear hnb
    have Hsz:Hid (w.heap.size<=((w1.alloc (.cells #[.pointer (some ⟨g,0,none⟩)] 73)).alloc (.cells #[.func (.func 73) #[] #[.pointer (some ⟨w1.heap.size,0,none⟩),.pointer (some ⟨wr.heap.size,0,none⟩)]] 149)).heap.size):=Nat.le_trans HI.out.2.2.bel.size hbw.size
    clear hbE hbx hbl hb1 hG hF hon hbx1 hb2 hbr hb3 hb4 hbw HC HRg H8 HS Hps
    go_wp2_with (at_builtin;refine wpList_append_one Tryz.underlying109 info149 rfl (by decide) (by decide) rfl _ _ rfl w.heap.size fv fc k vs rfl HRo.out (w1.heap.size+1) 1 [.func (.func 73) #[] #[.pointer (some ⟨w1.heap.size,0,none⟩),.pointer (some ⟨wr.heap.size,0,none⟩)]] rfl Hnb.out rfl (by intro u hu;rw [List.mem_singleton.1 hu];rfl) (by omega) Hsz.out ?_;clear Hnb Hsz;intro ga ca wn hrow hgr hga _;have HN:Hid _:=HI.out.2.2.next HB.out hlt HI.out.1 HP.out hrow hgr hga;have HV:Hid ((vs++[Value.func (.func 73) #[] #[.pointer (some ⟨w1.heap.size,0,none⟩),.pointer (some ⟨wr.heap.size,0,none⟩)]]).length=k+1):=(by show _=_;rw [List.length_append,HI.out.1];rfl);clear HB HRo HP hrow hgr hga HI)
    go_roundw
    case rel=>exact ⟨k+1,_,_,_,rfl,by go_num,by omega,HV.out,fun _=>ho,HN.out⟩
    case measure=>simp [intOf];omega
  ·have hkn:k=ps.length:=by omega
   subst hkn
   have R:=HY.out wr fv fc vs (by
    rintro ⟨h1,h2⟩
    have:=HI.out.2.1 (List.length_pos_iff.2 h2)
    rw [h1] at this;cases this) HI.out.2.2.row HI.out.2.2.at_ HI.out.2.2.bel
   clear HI HS HR HRg H8 HY Hps
   go_wp2
   exact R
end Go.Proofs.YtlllmmceoeihkaaGreat
