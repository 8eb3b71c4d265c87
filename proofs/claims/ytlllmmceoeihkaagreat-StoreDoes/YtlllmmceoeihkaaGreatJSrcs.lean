/-
  Rows of ints and of spans, slots in memory; bytes as strings.
  The law's tells: a region tells its slots, each in sectors of its own, and the others free.
  The document's Plan: what slots have behind some changes.
  What a file tells: a header read back; blank files; other files. A disk and regions on the way.
  Plain: what a plan's blocks leave on the disk, and how slots are laid.
  Bytes in a slice: out of rows, blocks, what Read answers.
-/
import Derived.Test.YtlllmmceoeihkaaGreatGwrites
set_option maxRecDepth 20000
namespace Go.Proofs.YtlllmmceoeihkaaGreat
open Go.RowKit
/-! ### rows of ints -/
def ivals (xs:List Int):Array Value:=(xs.map (Value.int .i64)).toArray
def IRow (w:World) (b:Nat) (xs:List Int):Prop:=w.heap[b]?=some (.cells (ivals xs) 3 (0,0))
theorem IRow.at {w:World} {b:Nat} {xs:List Int} (H:IRow w b xs) {i:Nat} (hi:i<xs.length):w.cell? ⟨b,i,none⟩=some (.int .i64 (xs.getD i 0)):=by
 rw [cell_of_row w b i _ 3 (0,0) H,List.getD_eq_getElem?_getD,List.getElem?_eq_getElem hi]
 simp [ivals,hi]
theorem IRow.free {w:World} {b:Nat} {xs:List Int} (H:IRow w b xs) (i:Nat):w.frozen? ⟨b,i,none⟩=false:=frozen_of_row w _ _ _ 3 H
theorem IRow.set {w:World} {b:Nat} {xs:List Int} (H:IRow w b xs) (i:Nat) (x:Int):IRow (w.setCell ⟨b,i,none⟩ (.int .i64 x)) b (xs.set i x):=by
 unfold IRow
 rw [heap_setCell_same w b i _ 3 _ H]
 simp [ivals]
theorem IRow.lt {w:World} {b:Nat} {xs:List Int} (H:IRow w b xs):b<w.heap.size:=(Array.getElem?_eq_some_iff.1 H).1
theorem IRow.on {w w':World} {b:Nat} {xs:List Int} (H:IRow w b xs) (hb:Below w.heap.size w w'):IRow w' b xs:=(hb.block b H.lt).trans H
theorem info3:(Tryz.prog.info? 3).map (fun i=>(i.zero,i.size,i.bytes))=some (some (.int .i64 0),1,8):=by kernel_rfl
theorem made_ints (n:Nat):madeCells #[.int .i64 0] n=ivals (List.replicate n 0):=by
 apply Array.ext
 ·simp [madeCells,ivals]
 ·intro i h1 h2
  simp [madeCells,ivals]
  rw [Nat.mod_one]
  rfl
theorem wpList_make_ints (w:World) {ops:Array Oper} {rest:List Oper} {o:Oper} {a:Act} {Q:Exit->Act->World->Prop}
  (hg:o.guard=none) (l c:Operand) (hop:o.op=Op.makeSlice 47 l c) (L:Int) (n:Nat) (hl:a.eval l = .int .i64 L) (hc:a.eval c = .int .i64 L) (hL:L=(n:Int)) (hn:n<=1000000000)
  (hK:∀ w',Hid (IRow w' w.heap.size (List.replicate n 0))->Below w.heap.size w w'->wpList Tryz.prog ops Q rest (a.put o.dst (.slice (some ⟨w.heap.size,0,none⟩) n n)) w') :
  wpList Tryz.prog ops Q (o::rest) a w:=by
 obtain ⟨i,hi,hz0,hz1,hz2⟩:=info_parts info3
 refine wpList_make_full w hg l c 47 hop w.heap.size 3 i (.int .i64 0) 1 Tryz.underlying47 hi hz0 hz1 .i64 .i64 L L n hl hc hL hL (by rw [hz2];omega) (by unfold maxLen;omega) (Nat.le_refl _) ?_
 intro w' hown hgrow
 refine hK w' ?_ ((Below.refl _ _).grown hgrow (Nat.le_refl _) (by simp))
 have:=own_full hown
 show IRow _ _ _
 unfold IRow
 rw [this,Nat.mul_one]
 show some (Obj.cells (madeCells #[Value.int .i64 0] n) 3 (0,0))=_
 rw [made_ints]
/-! ### spans of one's own -/
def OwnSp (w:World) (lo:Nat) (a:Option Addr) (c:Nat) (l:List Sp):Prop:=w.ownsRow lo 97 2 (.slice a l.length c) l.length (spCells l)
theorem info97:(Tryz.prog.info? 97).map (fun i=>(i.zero,i.size,i.bytes))=some (some (.agg #[.int .i64 0,.int .i64 0]),2,16):=by kernel_rfl
theorem spCells_append (l m:List Sp):spCells (l++m)=spCells l++spCells m:=by unfold spCells;rw [List.flatMap_append]
theorem spCells_one (l:List Sp):∀ u∈spCells l,u.oneCell'=true:=by
 intro u hu
 unfold spCells at hu
 obtain ⟨x,_,hx⟩:=List.mem_flatMap.1 hu
 simp only [spc,List.mem_cons,List.not_mem_nil,or_false] at hx
 rcases hx with rfl | rfl <;> rfl
theorem OwnSp.at {w:World} {lo:Nat} {a:Option Addr} {c:Nat} {l:List Sp} (h:OwnSp w lo a c l):SpsAt w a l:=by
 rcases h.2 with ⟨_,h0⟩|⟨g,cap,cur,hv,_,_⟩
 ·exact .inl (List.eq_nil_of_length_eq_zero h0)
 ·simp only [Value.slice.injEq] at hv
  refine .inr ⟨g,0,hv.1,fun j u hj=>?_⟩
  obtain ⟨hj',_⟩:=List.getElem?_eq_some_iff.1 hj
  rw [spCells_len] at hj'
  have h':w.ownsRow lo 97 2 (.slice (some ⟨g,0,none⟩) l.length c) l.length (spCells l):=by rw [<- hv.1];exact h
  have:=World.ownsRow.cellAt h' j hj'
  rw [Nat.zero_add,this,hj]
theorem wpList_append_sps {w:World} {ops:Array Oper} {rest:List Oper} {o:Oper} {a:Act} {Q:Exit->Act->World->Prop} (hgd:o.guard=none) (s x:Operand)
  (ho:o.op = .call { callee:=.builtin .append,args := #[s,x],argTypes := #[95,95] }) (B:Nat) (av:Option Addr) (n cv:Nat) (L:List Sp) (hn:L.length=n) (hs:a.eval s = .slice av n cv) (hown:OwnSp w B av cv L)
  (sp:Option Addr) (m sc:Nat) (M:List Sp) (hm:M.length=m) (hx:a.eval x = .slice sp m sc) (hX:SpsAt w sp M) (hnil:sp=none->sc=0) (hle:n+m<=100000) (w0:World) (hb:Below B w0 w) (hB:B<=w.heap.size)
  (h:∀ a' c' w',Hid (OwnSp w' B a' c' (L++M))->Below B w0 w'->B<=w'.heap.size->wpList Tryz.prog ops Q rest (a.put o.dst (.slice a' (n+m) c')) w'):wpList Tryz.prog ops Q (o::rest) a w:=by
 obtain ⟨i,hi,hz0,hz1,hz2⟩:=info_parts info97
 subst hn hm
 cases sp with
 | none =>
   obtain rfl:=hnil rfl
   have hM:M=[]:=by
    rcases hX with e | ⟨b,off,e,_⟩
    ·exact e
    ·cases e
   subst hM
   refine wpList_append_own_none hgd s x 95 ho B 97 i 2 Tryz.underlying95 hi _ _ _ hs hown hx ?_
   have:=h av cv w (show OwnSp _ _ _ _ _ by simpa using hown) hb hB
   simpa using this
 | some ad =>
   refine wpList_append_own w hgd s x 95 ho B 97 i (.agg #[.int .i64 0,.int .i64 0]) 2 16 Tryz.underlying95 hi hz0 hz1 hz2 rfl (by decide) _ _ _ hs hown ad M.length sc (spCells M) hx (spCells_len M) ?_ (spCells_one M) (by unfold maxLen;omega) (by omega) hB ?_
   ·intro j u hj
    rcases hX with rfl | ⟨b,off,e,hc⟩
    ·simp [spCells] at hj
    ·obtain rfl:=Option.some.inj e
     rw [Addr.add_mid]
     exact hc j u hj
   ·intro v' w' h1 h2 _
    have hb':Below B w0 w':=hb.grown h2 hB (fun k hk=>(World.ownsRow.lt hown k hk).1)
    have hB':B<=w'.heap.size:=Nat.le_trans hB h2.size
    have e:∃ a' c',v' = .slice a' (L.length+M.length) c':=by
     rcases h1.2 with ⟨hv,hn⟩|⟨g,cap,_,hv,_⟩
     ·exact ⟨none,0,by rw [hv,hn]⟩
     ·exact ⟨_,_,hv⟩
    obtain ⟨a',c',rfl⟩:=e
    refine h a' c' w' ?_ hb' hB'
    show OwnSp _ _ _ _ _
    unfold OwnSp
    rw [List.length_append,spCells_append]
    exact h1
/-! ### slots -/
end Go.Proofs.YtlllmmceoeihkaaGreat
set_option maxRecDepth 20000
namespace Go.Proofs.YtlllmmceoeihkaaGreat
open Go.RowKit
/-! ### how often each sector is counted -/
theorem cnt_one (s:Sp) (i:Nat):cnt [s] i=if covers s i then 1 else 0:=by simp [cnt,List.countP_cons]
theorem cnt_nil (f i:Nat):cnt [(f,0)] i=0:=by
 rw [cnt_one]
 unfold covers
 rw [decide_eq_false (by simp only;omega)]
 rfl
def hRow (n:Nat):List Int:=(List.range 40).map fun i=>if i<n then 1 else 0
theorem free_len (sp:List Sp):(freeR sp).length<=38:=by
 have h1:∀ j,(spTo 2 (tkR sp) j).length<=j:=by
  intro j
  induction j with
  | zero=>exact Nat.le_refl _
  | succ j ih =>
    rw [spTo]
    split
    ·omega
    ·unfold addS
     split
     ·rename_i hl
      split
      ·have:=last_split hl
       have h2:=congrArg List.length this
       simp only [List.length_append,List.length_cons,List.length_nil] at h2 ⊢
       omega
      ·simp only [List.length_append,List.length_cons,List.length_nil]
       omega
     ·simp only [List.length_cons,List.length_nil]
      omega
 unfold freeR spansS
 rw [tkR_len]
 exact h1 38
theorem all_in {sp:List Sp} {dat:List (List Int)} (H:GoodR sp dat) {s:Sp} (hs:s∈sp++freeR sp):s.1+s.2<=40:=by
 rcases List.mem_append.1 hs with h | h
 ·rcases sp_in H h with rfl | h
  ·decide
  ·exact h.2
 ·exact ((freeR_is sp).ins s h).2.2.1
end Go.Proofs.YtlllmmceoeihkaaGreat
set_option maxRecDepth 20000
namespace Go.Proofs.YtlllmmceoeihkaaGreat
open Go.RowKit
/-! ### a row of slices of one's own -/
def hadR (hd:List Nat):List Bool:=(List.range 16).map fun i=>decide (i∈hd)
theorem hadR_len (hd:List Nat):(hadR hd).length=16:=by simp [hadR]
theorem hadR_at (hd:List Nat) {i:Nat} (hi:i<16):(hadR hd).getD i false=decide (i∈hd):=by simp [hadR,List.getD_eq_getElem?_getD,hi]
theorem hadR_set (hd:List Nat) {i:Nat} (hi:i<16):(hadR hd).set i true=hadR (i::hd):=by
 apply List.ext_getElem?
 intro j
 rw [List.getElem?_set]
 simp only [hadR,List.length_map,List.length_range,List.getElem?_map]
 by_cases hj:j<16
 ·rw [List.getElem?_range hj]
  by_cases e:i=j
  ·rw [if_pos e,if_pos hi]
   simp [e]
  ·rw [if_neg e]
   simp [Ne.symm e]
 ·rw [List.getElem?_eq_none (by simp;omega)]
  by_cases e:i=j
  ·omega
  ·rw [if_neg e];rfl
theorem chg_bad {d:List (List Int)} {hd:List Nat} {c:Cs} {r:List Cs} (h:¬ (0<=c.s∧c.s<16∧c.s.toNat∉hd)):chgAll d hd (c::r)=none:=by rw [chgAll,if_neg h]
theorem chg_ok {d:List (List Int)} {hd:List Nat} {c:Cs} {r:List Cs} (h:0<=c.s∧c.s<16∧c.s.toNat∉hd):chgAll d hd (c::r)=chgAll (d.set c.s.toNat c.b) (c.s.toNat::hd) r:=by rw [chgAll,if_pos h]
end Go.Proofs.YtlllmmceoeihkaaGreat
set_option maxRecDepth 20000
namespace Go.Proofs.YtlllmmceoeihkaaGreat
open Go.RowKit
/-! ### the header read back -/
theorem hdr_at:∀ (sp:List Sp) (dat:List (List Int)) (k:Nat) (h:k<sp.length) (h':k<dat.length) (j:Nat),j<4->(hdrR sp dat).getD (4*k+j) 0=(hdr1 sp[k] dat[k]).getD j 0
 | [],_,_,h,_,_,_=>absurd h (Nat.not_lt_zero _)
 | _::_,[],_,_,h',_,_=>absurd h' (Nat.not_lt_zero _)
 | s::sp,b::dat,0,_,_,j,hj=>by
   have e:hdrR (s::sp) (b::dat)=hdr1 s b++hdrR sp dat:=by simp [hdrR]
   rw [e,Nat.mul_zero,Nat.zero_add,List.getD_eq_getElem?_getD,List.getD_eq_getElem?_getD,List.getElem?_append_left (by simp [hdr1];omega)]
   rfl
 | s::sp,b::dat,k+1,h,h',j,hj=>by
   have e:hdrR (s::sp) (b::dat)=hdr1 s b++hdrR sp dat:=by simp [hdrR]
   have ih:=hdr_at sp dat k (by simpa using h) (by simpa using h') j hj
   rw [e,show 4*(k+1)+j=4+(4*k+j) by omega,List.getD_eq_getElem?_getD,List.getElem?_append_right (by simp [hdr1]),<- List.getD_eq_getElem?_getD]
   rw [show 4+(4*k+j)-(hdr1 s b).length=4*k+j by simp [hdr1]]
   simpa using ih
theorem ent_hdr {sp:List Sp} {dat:List (List Int)} (H:GoodR sp dat):entS (hdrR sp dat)=(sp.zip dat).map fun p=>(p.1,p.2.length):=by
 have hn:=H.n
 have hm:=H.m
 apply List.ext_getElem
 ·simp [entS,hn,hm]
 ·intro k h1 h2
  have hk:k<16:=by simpa [entS] using h1
  have h0:=hdr_at sp dat k (by omega) (by omega) 0 (by omega)
  have h1:=hdr_at sp dat k (by omega) (by omega) 1 (by omega)
  have h2:=hdr_at sp dat k (by omega) (by omega) 2 (by omega)
  have h3:=hdr_at sp dat k (by omega) (by omega) 3 (by omega)
  simp only [Nat.add_zero] at h0
  simp only [entS,List.getElem_map,List.getElem_range,List.getElem_zip,h0,h1,h2,h3]
  simp only [hdr1,List.getD_cons_zero,List.getD_cons_succ,Int.toNat_natCast]
  refine Prod.ext rfl ?_
  simp only
  omega
theorem open_on {L:List Bk} {ρ:Rho} (H:GoodR ρ.sp ρ.dat) (hO:OnD L ρ):HdOk (headS L ρ.x ρ.z)∧rhoS L ρ.x ρ.z=ρ:=by
 have e:headS L ρ.x ρ.z=(ρ.sp.zip ρ.dat).map fun p=>(p.1,p.2.length):=by
  unfold headS
  rw [<- ent_hdr H,<- hO.head]
  rfl
 have hn:=H.n
 have hm:=H.m
 have e1:(headS L ρ.x ρ.z).map (·.1)=ρ.sp:=by
  rw [e,List.map_map]
  apply List.ext_getElem
  ·simp;omega
  ·intro k h1 h2
   simp
 refine ⟨⟨fun h hh=>?_,fun i=>by rw [e1];exact H.once i⟩,?_⟩
 ·rw [e,List.mem_map] at hh
  obtain ⟨p,hp,rfl⟩:=hh
  obtain ⟨k,hk,rfl⟩:=List.mem_iff_getElem.1 hp
  rw [List.length_zip] at hk
  rw [List.getElem_zip]
  rcases H.ok k (by omega) (by omega) with h | h
  ·left
   simp only
   rw [h.1,h.2]
   rfl
  ·exact .inr h
 ·unfold rhoS
  rw [e1]
  have e2:(headS L ρ.x ρ.z).map (fun h=>(blks L (2,ρ.x,ρ.z) h.1.1 h.1.2).take h.2)=ρ.dat:=by
   rw [e,List.map_map]
   apply List.ext_getElem
   ·simp;omega
   ·intro k h1 h2
    have hk:k<ρ.dat.length:=h2
    have:=hO.dat k (by omega) hk
    simpa [Rho.file] using this
  rw [e2]
/-! ### blank files, other files -/
def Blank (L:List Bk) (f:Fl):Prop:=∀ i,blk L f i=List.replicate 32 0
theorem blank_nil (f:Fl):Blank [] f:=fun _=>rfl
theorem blks_congr {L L':List Bk} {f:Fl} (h:∀ i,blk L f i=blk L' f i) (i n:Nat):blks L f i n=blks L' f i n:=by
 unfold blks
 congr 1
 exact List.map_congr_left (fun j _=>h j)
theorem blank_blks {L:List Bk} {f:Fl} (h:Blank L f) (i n:Nat):blks L f i n=blks [] f i n:=blks_congr (fun j=>(h j).trans (blank_nil f j).symm) i n
def sp0:List Sp:=List.replicate 16 (0,0)
def dat0:List (List Int):=List.replicate 16 []
theorem on_blank {L:List Bk} {x z:Int} (h:Blank L (2,x,z)):OnD L ⟨x,z,sp0,dat0⟩:=by
 refine ⟨?_,fun k h1 h2=>?_⟩
 ·show blks L (2,x,z) 0 2=_
  rw [blank_blks h]
  rfl
 ·simp only [dat0,List.getElem_replicate]
  rfl
theorem blk_put_other {l:List Bk} {f g:Fl} (h:f≠g) (i:Int) (b:List Int) (j:Nat):blk (put l f i b) g j=blk l g j:=by
 unfold blk
 rw [has_put_other l f g i j b (fun e=>h e.1)]
theorem blk_putAll_other {f g:Fl} (h:f≠g):∀ (ps:List Pb) (l:List Bk) (j:Nat),blk (putAll f l ps) g j=blk l g j
 | [],_,_=>rfl
 | p::r,l,j=>by
   show blk (putAll f (put l f (p.i:Int) p.b) r) g j=_
   rw [blk_putAll_other h r,blk_put_other h]
theorem OnD.other {L L':List Bk} {ρ:Rho} (h:OnD L ρ) (he:∀ i,blk L' ρ.file i=blk L ρ.file i):OnD L' ρ :=
 ⟨(blks_congr he 0 2).trans h.head,fun k h1 h2=>by rw [blks_congr he];exact h.dat k h1 h2⟩
theorem Good.putAll {f:Fl}:∀ (ps:List Pb) {l:List Bk},Good l->PsOk ps->Good (putAll f l ps)
 | [],_,h,_=>h
 | p::r,l,h,ho=>by
   have h1:=ho.ok p (by simp)
   refine Good.putAll r (h.put (f:=f) (i:=(p.i:Int)) (bs:=p.b) ⟨by omega,by omega,h1.2.1⟩) ⟨fun q hq=>ho.ok q (List.mem_cons_of_mem _ hq),?_⟩
   have:=ho.once
   rw [List.map_cons,List.nodup_cons] at this
   exact this.2
theorem nodup_len:∀ (n:Nat) (l:List Nat),l.Nodup->(∀ x∈l,x<n)->l.length<=n
 | 0,l,_,h=>by
   cases l with
   | nil=>exact Nat.le_refl _
   | cons a r=>exact absurd (h a (by simp)) (Nat.not_lt_zero _)
 | n + 1,l,hn,h=>by
   by_cases hm:n∈l
   ·obtain ⟨s,t,rfl⟩:=List.append_of_mem hm
    rw [List.nodup_append,List.nodup_cons] at hn
    have h1:(s++t).Nodup:=List.nodup_append.2 ⟨hn.1,hn.2.1.2,fun a ha b hb=>hn.2.2 a ha b (List.mem_cons_of_mem _ hb)⟩
    have:=nodup_len n (s++t) h1 (fun x hx=>by
     have hx':x∈s++n::t:=by
      rcases List.mem_append.1 hx with h | h
      ·exact List.mem_append_left _ h
      ·exact List.mem_append_right _ (List.mem_cons_of_mem _ h)
     have h2:=h x hx'
     have h3:x≠n:=by
      rintro rfl
      rcases List.mem_append.1 hx with h | h
      ·exact hn.2.2 x h x (by simp) rfl
      ·exact hn.2.1.1 h
     omega)
    simp only [List.length_append,List.length_cons] at this ⊢
    omega
   ·have:=nodup_len n l hn (fun x hx=>by
     have h2:=h x hx
     have h3:x≠n:=fun e=>hm (e▸hx)
     omega)
    omega
end Go.Proofs.YtlllmmceoeihkaaGreat
set_option maxRecDepth 20000
namespace Go.Proofs.YtlllmmceoeihkaaGreat
theorem blk_here (l:List Bk) (f:Fl) (i:Nat) (b:List Int):blk (put l f (i:Int) b) f i=b:=by
 unfold blk
 rw [has_put_same]
 rfl
theorem blk_other (l:List Bk) (f:Fl) (i j:Nat) (b:List Int) (h:i≠j):blk (put l f (i:Int) b) f j=blk l f j:=by
 unfold blk
 rw [has_put_other l f f i j b (fun e=>h (by omega))]
theorem blk_all (f:Fl) (i:Nat):∀ (ps:List Pb) (L:List Bk),(∀ p∈ps,p.i≠i)->blk (putAll f L ps) f i=blk L f i
 | [],_,_=>rfl
 | q::r,L,h=>by
   show blk (putAll f (put L f (q.i:Int) q.b) r) f i=_
   rw [blk_all f i r _ (fun p hp=>h p (List.mem_cons_of_mem _ hp)),blk_other _ _ _ _ _ (h q (by simp))]
theorem blk_mem (f:Fl):∀ (ps:List Pb) (L:List Bk),(ps.map (·.i)).Nodup->∀ p∈ps,blk (putAll f L ps) f p.i=p.b
 | [],_,_,p,hp=>by simp at hp
 | q::r,L,h,p,hp=>by
   rw [List.map_cons,List.nodup_cons] at h
   show blk (putAll f (put L f (q.i:Int) q.b) r) f p.i=_
   rcases List.mem_cons.1 hp with rfl | hr
   ·rw [blk_all f p.i r _ (fun p' hp' e=>h.1 (List.mem_map.2 ⟨p',hp',e⟩)),blk_here]
   ·exact blk_mem f r _ h.2 p hr
theorem blks_of {L:List Bk} {f:Fl} {i n:Nat} {b:Nat->List Int} (h:∀ j,j<n->blk L f (i+j)=b j):blks L f i n=((List.range n).map b).flatten:=by
 unfold blks
 rw [List.range'_eq_map_range,List.map_map]
 congr 1
 refine List.map_congr_left (fun j hj=>?_)
 exact h j (List.mem_range.1 hj)
def sec (b:List Int) (j:Nat):List Int:=(b.drop (32*j)).take 32
theorem sec_drop (b:List Int) (j:Nat):sec (b.drop 32) j=sec b (j+1):=by
 unfold sec
 rw [List.drop_drop,show 32+32*j=32*(j+1) by omega]
theorem secs_take:∀ (n:Nat) (b:List Int) (c:Nat->List Int),b.length<=32*n->(∀ j,j<n->(c j).length=32∧(c j).take (sec b j).length=sec b j)->(((List.range n).map c).flatten).take b.length=b
 | 0,b,c,h,_=>by
   have:b=[]:=List.eq_nil_of_length_eq_zero (by omega)
   subst this
   simp
 | n + 1,b,c,h,hc=>by
   obtain ⟨h1,h2⟩:=hc 0 (by omega)
   have e0:sec b 0=b.take 32:=by unfold sec;rfl
   rw [e0,List.length_take] at h2
   rw [List.range_succ_eq_map,List.map_cons,List.flatten_cons,List.map_map]
   by_cases hl:b.length<=32
   ·rw [List.take_append_of_le_length (by omega)]
    rw [Nat.min_eq_right hl,List.take_of_length_le hl] at h2
    exact h2
   ·rw [Nat.min_eq_left (by omega),List.take_of_length_le (by omega)] at h2
    have ih:=secs_take n (b.drop 32) (c ∘ Nat.succ) (by rw [List.length_drop];omega) (fun j hj=>by
     rw [sec_drop]
     exact hc (j+1) (by omega))
    rw [List.take_append,List.take_of_length_le (by omega),h1,h2]
    rw [List.length_drop] at ih
    rw [ih,List.take_append_drop]
theorem hdrR_len {sp:List Sp} {dat:List (List Int)} (h1:sp.length=16) (h2:dat.length=16):(hdrR sp dat).length=64:=by
 have key:∀ (l:List (Sp×List Int)),((l.map fun p=>hdr1 p.1 p.2).flatten).length=4*l.length:=by
  intro l
  induction l with
  | nil=>rfl
  | cons a r ih =>
    rw [List.map_cons,List.flatten_cons,List.length_append,ih,List.length_cons]
    show 4+4*r.length=_
    omega
 unfold hdrR
 rw [key,List.length_zip,h1,h2]
 rfl
theorem onD_put {L:List Bk} {ρ:Rho} {sp':List Sp} {dat':List (List Int)} {ps:List Pb} (hon:OnD L ρ) (hok:PsOk ps) (hG:GoodR sp' dat')
  (hhead:∀ i,i<2->∃ p∈ps,p.i=i∧p.b=sec (hdrR sp' dat') i)
  (hk:∀ k (h:k<sp'.length) (h':k<dat'.length),(∀ j,j<sp'[k].2->∃ p∈ps,p.i=sp'[k].1+j∧p.b.take (sec dat'[k] j).length=sec dat'[k] j) ∨
   (∃ (g:k<ρ.sp.length) (g':k<ρ.dat.length),ρ.sp[k]=sp'[k]∧ρ.dat[k]=dat'[k]∧∀ p∈ps,¬ (sp'[k].1<=p.i∧p.i<sp'[k].1+sp'[k].2))) :
  OnD (putAll ρ.file L ps) ⟨ρ.x,ρ.z,sp',dat'⟩:=by
 refine ⟨?_,fun k h h'=>?_⟩
 ·show blks (putAll ρ.file L ps) ρ.file 0 2=hdrR sp' dat'
  have hlen:=hdrR_len hG.n hG.m
  rw [blks_of (b:=sec (hdrR sp' dat')) (fun j hj=>by
   obtain ⟨p,hp,e1,e2⟩:=hhead j hj
   rw [Nat.zero_add,<- e2,<- e1]
   exact blk_mem _ _ _ hok.once p hp)]
  have:=secs_take 2 (hdrR sp' dat') (sec (hdrR sp' dat')) (by omega) (fun j hj=>by
   refine ⟨?_,List.take_of_length_le (Nat.le_refl _)⟩
   unfold sec
   rw [List.length_take,List.length_drop]
   omega)
  rw [List.take_of_length_le (by
   rw [show List.range 2=[0,1] from rfl]
   simp only [List.map_cons,List.map_nil,List.flatten_cons,List.flatten_nil,List.length_append,List.length_nil]
   unfold sec
   rw [List.length_take,List.length_drop,List.length_take,List.length_drop]
   omega)] at this
  exact this
 ·show (blks (putAll ρ.file L ps) ρ.file sp'[k].1 sp'[k].2).take dat'[k].length=dat'[k]
  rcases hk k h h' with hw | ⟨g,g',e1,e2,hn⟩
  ·have hlen:dat'[k].length<=32*sp'[k].2:=by
    rcases hG.ok k h h' with ⟨e,_⟩|⟨_,e,_⟩
    ·rw [e];exact Nat.zero_le _
    ·rw [e];unfold needS;omega
   rw [blks_of (b:=fun j=>blk (putAll ρ.file L ps) ρ.file (sp'[k].1+j)) (fun j _=>rfl)]
   refine secs_take _ _ _ hlen (fun j hj=>?_)
   obtain ⟨p,hp,e1,e2⟩:=hw j hj
   rw [<- e1,blk_mem _ _ _ hok.once p hp]
   exact ⟨(hok.ok p hp).2.1,e2⟩
  ·have:=hon.dat k g g'
   rw [e1,e2] at this
   rw [<- this]
   congr 1
   ·rw [this]
   ·unfold blks
    congr 1
    refine List.map_congr_left (fun i hi=>?_)
    rw [List.mem_range'_1] at hi
    exact blk_all _ _ _ _ (fun p hp e=>hn p hp (by omega))
/-! ### slots -/
theorem covers_nil (i:Nat):covers (0,0) i=false:=by unfold covers;exact decide_eq_false (by simp only;omega)
def layS:Nat->List (List Int)->List Sp
 | _,[]=>[]
 | m,b::r=>(if b=[] then (0,0) else (m,needS b.length))::layS (m+needS b.length) r
theorem layS_len:∀ (m:Nat) (l:List (List Int)),(layS m l).length=l.length
 | _,[]=>rfl
 | m,b::r=>by show (layS _ r).length+1=_;rw [layS_len];rfl
theorem layS_ok:∀ (l:List (List Int)) (m:Nat),2<=m->m+needAll l<=40->∀ k (h:k<(layS m l).length) (h':k<l.length),slotOk (layS m l)[k] l[k]
 | [],_,_,_,k,_,h'=>by simp at h'
 | b::r,m,hm,hl,0,_,_=>by
   show slotOk (if b=[] then (0,0) else (m,needS b.length)) b
   have e:needAll (b::r)=needS b.length+needAll r:=by simp [needAll]
   by_cases hb:b=[]
   ·rw [if_pos hb];exact .inl ⟨hb,rfl⟩
   ·rw [if_neg hb]
    have:b.length≠0:=fun h=>hb (List.eq_nil_of_length_eq_zero h)
    exact .inr ⟨by omega,rfl,hm,by simp only;omega⟩
 | b::r,m,hm,hl,k+1,h,h'=>by
   have e:needAll (b::r)=needS b.length+needAll r:=by simp [needAll]
   exact layS_ok r (m+needS b.length) (by omega) (by omega) k (by simpa [layS] using h) (by simpa using h')
theorem layS_low:∀ (l:List (List Int)) (m i:Nat),i<m->cnt (layS m l) i=0
 | [],_,_,_=>by simp [layS,cnt]
 | b::r,m,i,hi=>by
   have e:cnt (layS m (b::r)) i=cnt (layS (m+needS b.length) r) i+(if covers (if b=[] then (0,0) else (m,needS b.length)) i then 1 else 0):=by simp [cnt,layS,List.countP_cons]
   rw [e,layS_low r _ i (by omega)]
   by_cases hb:b=[]
   ·rw [if_pos hb,covers_nil];rfl
   ·rw [if_neg hb]
    have:covers (m,needS b.length) i=false:=by unfold covers;exact decide_eq_false (by simp only;omega)
    rw [this];rfl
theorem layS_once:∀ (l:List (List Int)) (m i:Nat),cnt (layS m l) i<=1
 | [],_,_=>by simp [layS,cnt]
 | b :: r,m,i=>by
   have e:cnt (layS m (b::r)) i=cnt (layS (m+needS b.length) r) i+(if covers (if b=[] then (0,0) else (m,needS b.length)) i then 1 else 0):=by simp [cnt,layS,List.countP_cons]
   have ih:=layS_once r (m+needS b.length) i
   by_cases hb:b=[]
   ·rw [e,if_pos hb,covers_nil]
    simp only [Bool.false_eq_true,if_false]
    omega
   ·rw [if_neg hb] at e
    by_cases hc:covers (m,needS b.length) i=true
    ·have hc':m<=i∧i<m+needS b.length:=of_decide_eq_true hc
     rw [e,layS_low r _ i (by omega),if_pos hc]
     omega
    ·rw [e,if_neg hc]
     omega
theorem layS_good {dat:List (List Int)} (hn:dat.length=16) (hl:2+needAll dat<=40) (hf:∀ b∈dat,∀ z∈b,0<=z∧z<=255):GoodR (layS 2 dat) dat :=
 ⟨by rw [layS_len];exact hn,hn,layS_ok dat 2 (by omega) hl,layS_once dat 2,hf⟩
/-! ### what a file tells -/
theorem has_in:∀ {l:List Bk} {f:Fl} {i:Int} {b:List Int},has l f i=some b->∃ k∈l,k.b=b
 | [],_,_,_,h=>by simp [has] at h
 | a::r,f,i,b,h=>by
   unfold has at h
   split at h
   ·exact ⟨a,by simp,by simpa using h⟩
   ·obtain ⟨k,hk,e⟩:=has_in h
    exact ⟨k,List.mem_cons_of_mem _ hk,e⟩
theorem blk_ok {L:List Bk} (hL:Good L) (hf:∀ b∈L,∀ z∈b.b,0<=z∧z<=255) (f:Fl) (i:Nat):(blk L f i).length=32∧∀ z∈blk L f i,0<=z∧z<=255:=by
 unfold blk
 cases h:has L f (i:Int) with
 | none =>
   refine ⟨by simp,fun z hz=>?_⟩
   have:=List.eq_of_mem_replicate hz
   omega
 | some b =>
   obtain ⟨k,hk,e⟩:=has_in h
   subst e
   exact ⟨(hL k hk).2.2,hf k hk⟩
theorem blks_ok {L:List Bk} (hL:Good L) (hf:∀ b∈L,∀ z∈b.b,0<=z∧z<=255) (f:Fl):∀ (n i:Nat),(blks L f i n).length=32*n∧∀ z∈blks L f i n,0<=z∧z<=255
 | 0,i=>by simp [blks]
 | n+1,i=>by
   have ih:=blks_ok hL hf f n (i+1)
   have h0:=blk_ok hL hf f i
   have e:blks L f i (n+1)=blk L f i++blks L f (i+1) n:=by unfold blks;rw [List.range'_succ,List.map_cons,List.flatten_cons]
   rw [e,List.length_append,ih.1,h0.1]
   refine ⟨by omega,fun z hz=>?_⟩
   rcases List.mem_append.1 hz with h | h
   ·exact h0.2 z h
   ·exact ih.2 z h
theorem rho_good {L:List Bk} (hL:Good L) (hf:∀ b∈L,∀ z∈b.b,0<=z∧z<=255) {x z:Int} (h:HdOk (headS L x z)):GoodR (rhoS L x z).sp (rhoS L x z).dat:=by
 have hlen:(headS L x z).length=16:=by simp [headS,entS]
 have hs:(rhoS L x z).sp=(headS L x z).map (·.1):=rfl
 have hd:(rhoS L x z).dat=(headS L x z).map (fun h=>(blks L (2,x,z) h.1.1 h.1.2).take h.2):=rfl
 refine ⟨by rw [hs,List.length_map,hlen],by rw [hd,List.length_map,hlen],fun k h1 h2=>?_,fun i=>by rw [hs];exact h.once i,fun b hb y hy=>?_⟩
 ·have hk:k<(headS L x z).length:=by rw [hs,List.length_map] at h1;exact h1
  refine (show slotOk ((headS L x z)[k].1) ((blks L (2,x,z) (headS L x z)[k].1.1 (headS L x z)[k].1.2).take (headS L x z)[k].2)->_ from fun hh=>by simp only [rhoS,List.getElem_map];exact hh) ?_
  generalize hq:(headS L x z)[k]=q
  have hm:q∈headS L x z:=by rw [<- hq];exact List.getElem_mem _
  rcases h.ok q hm with rfl | ⟨g1,g2,g3,g4⟩
  ·exact .inl ⟨rfl,rfl⟩
  ·have hb:=(blks_ok hL hf (2,x,z) q.1.2 q.1.1).1
   have hl:((blks L (2,x,z) q.1.1 q.1.2).take q.2).length=q.2:=by
    rw [List.length_take,hb]
    unfold needS at g2
    omega
   exact .inr ⟨by rw [hl];exact g1,by rw [hl];exact g2,g3,g4⟩
 ·rw [hd] at hb
  obtain ⟨q,_,rfl⟩:=List.mem_map.1 hb
  exact (blks_ok hL hf (2,x,z) q.1.2 q.1.1).2 y (List.mem_of_mem_take hy)
end Go.Proofs.YtlllmmceoeihkaaGreat
set_option maxRecDepth 20000
namespace Go.Proofs.YtlllmmceoeihkaaGreat
open Go.RowKit
theorem Bytes.src {w:World} {a:Option Addr} {n:Nat} {xs:List Int} (h:Bytes w a n xs):Src w a n xs :=
 ⟨h.n,fun k hk=>by
  obtain ⟨b,off,z,e,hc,_,_,hl,hz⟩:=h.get k hk
  refine ⟨b,off,e,World.block_lt_of_cell? w _ hc,?_⟩
  rw [hc,hz,List.getD_eq_getElem?_getD,List.getElem?_eq_getElem hl]
  rfl,fun k=>by
  rw [List.getD_eq_getElem?_getD]
  cases e:xs[k]? with
  | none=>exact ⟨by decide,by decide⟩
  | some z=>exact h.fit z (List.mem_of_getElem? e)⟩
end Go.Proofs.YtlllmmceoeihkaaGreat
