/-
  Bytes that a call itself has gathered by append, and what one more append does to them: laws for the walks of this seat.
-/
import Derived.Test.YtlllmmceoeihkaaGreatKPuts
import Derived.Laws.AppendOwnNone
namespace Go.Proofs.YtlllmmceoeihkaaGreat.K
open Go.RowKit
def Own (w:World) (B:Nat) (a:Option Addr) (c:Nat) (ys:List Int):Prop:=w.ownsRow B 5 1 (.slice a ys.length c) ys.length (ys.map (Value.int .u8))
theorem Own.nil (w:World) (B:Nat):Own w B none 0 []:=World.ownsRow_nil w B 5 1
theorem Own.parts {w:World} {B:Nat} {a:Option Addr} {c:Nat} {ys:List Int} (h:Own w B a c ys) :
  (a=none∧c=0∧ys=[])∨∃ g,a=some ⟨g,0,none⟩∧B<=g∧g<w.heap.size∧(∀ k (hk:k<ys.length),w.cell? ⟨g,k,none⟩=some (.int .u8 ys[k]))∧(∀ k,w.frozen? ⟨g,k,none⟩=false)∧ys.length<=c:=by
 rcases h.2 with ⟨hv,hn⟩|⟨g,cap,cur,hv,hg,hh,hc,_,hs,ht⟩
 ·simp only [Value.slice.injEq] at hv
  exact .inl ⟨hv.1,hv.2.2,List.eq_nil_of_length_eq_zero hn⟩
 ·simp only [Value.slice.injEq] at hv
  obtain ⟨rfl,_,rfl⟩:=hv
  refine .inr ⟨g,rfl,hg,(Array.getElem?_eq_some_iff.1 hh).1,fun k hk=>?_,fun k=>frozen_of_row w g k _ 5 hh,hc⟩
  have:=World.ownsRow.cellAt h k (by simpa using hk)
  rw [this]
  simp [hk]
theorem Own.bytes {w:World} {B:Nat} {a:Option Addr} {c:Nat} {ys:List Int} (h:Own w B a c ys) (hf:∀ z∈ys,0<=z∧z<=255) (len:Nat) (hl:ys.length=len):Bytes w a len ys:=by
 refine ⟨hl,?_,hf⟩
 rcases h.parts with ⟨_,_,e⟩|⟨g,e,_,_,hc,_⟩
 ·exact .inl e
 ·exact .inr ⟨g,0,e,fun k hk=>by rw [Nat.zero_add];exact hc k hk⟩
theorem Own.later {w w':World} {B:Nat} {a:Option Addr} {c:Nat} {ys:List Int} (h:Own w B a c ys) (hb:Below w.heap.size w w'):Own w' B a c ys:=by
 refine ⟨h.1,?_⟩
 rcases h.2 with h2 | ⟨g,cap,cur,hv,hg,hh,r⟩
 ·exact .inl h2
 ·exact .inr ⟨g,cap,cur,hv,hg,by rw [hb.block g (Array.getElem?_eq_some_iff.1 hh).1];exact hh,r⟩
theorem Own.set {w:World} {B:Nat} {g c:Nat} {ys:List Int} (h:Own w B (some ⟨g,0,none⟩) c ys) (k:Nat) (z:Int):Own (w.setCell ⟨g,k,none⟩ (.int .u8 z)) B (some ⟨g,0,none⟩) c (ys.set k z):=by
 unfold Own
 rw [List.length_set,List.map_set]
 exact (World.ownsRow.stored h k _).1
theorem Own.base {w:World} {B B':Nat} {a:Option Addr} {c:Nat} {ys:List Int} (h:Own w B a c ys) (hB:B'<=B):Own w B' a c ys:=by
 refine ⟨h.1,?_⟩
 rcases h.2 with h2 | ⟨g,cap,cur,hv,hg,r⟩
 ·exact .inl h2
 ·exact .inr ⟨g,cap,cur,hv,by omega,r⟩
theorem Own.some {w:World} {B:Nat} {a:Option Addr} {c:Nat} {ys:List Int} (h:Own w B a c ys) (hp:0<ys.length) :
  ∃ g,a = .some ⟨g,0,none⟩∧B<=g∧(∀ k (hk:k<ys.length),w.cell? ⟨g,k,none⟩ = .some (.int .u8 ys[k]))∧(∀ k,w.frozen? ⟨g,k,none⟩=false):=by
 rcases h.parts with ⟨_,_,e⟩|⟨g,e,hg,_,hc,hf,_⟩
 ·subst e;simp at hp
 ·exact ⟨g,e,hg,hc,hf⟩
theorem wpList_append_bytes {w:World} {ops:Array Oper} {rest:List Oper} {o:Oper} {a:Act} {Q:Exit->Act->World->Prop} (hgd:o.guard=none) (s x:Operand)
  (ho:o.op = .call { callee:=.builtin .append,args := #[s,x],argTypes := #[61,61] }) (B:Nat) (av:Option Addr) (n cv:Nat) (ys:List Int) (hn:ys.length=n) (hs:a.eval s = .slice av n cv) (hown:Own w B av cv ys)
  (sp:Option Addr) (m sc:Nat) (xs:List Int) (hx:a.eval x = .slice sp m sc) (hX:Bytes w sp m xs) (hnil:sp=none->sc=0) (hle:n+m<=140737488355328) (w0:World) (hb:Below B w0 w) (hB:B<=w.heap.size)
  (h:∀ a' c' w',Hid (Own w' B a' c' (ys++xs))->Below B w0 w'->B<=w'.heap.size->wpList Tryz.prog ops Q rest (a.put o.dst (.slice a' (n+m) c')) w'):wpList Tryz.prog ops Q (o::rest) a w:=by
 have hm:=hX.n
 obtain ⟨i,hi,hz0,hz1,hz2⟩:=info_parts Tryz.info5
 subst hn
 cases sp with
 | none =>
   obtain rfl:=hnil rfl
   have hxs:xs=[]:=by
    rcases hX.cells with e | ⟨b,off,e,_⟩
    ·exact e
    ·cases e
   subst hxs
   simp at hm
   subst hm
   refine wpList_append_own_none hgd s x 61 ho B 5 i 1 Tryz.underlying61 hi _ _ _ hs hown hx ?_
   have:=h av cv w (show Own _ _ _ _ _ by simpa using hown) hb hB
   simpa using this
 | some ad =>
   refine wpList_append_own w hgd s x 61 ho B 5 i (.int .u8 0) 1 1 Tryz.underlying61 hi hz0 hz1 hz2 rfl (by decide) _ _ _ hs hown ad m sc (xs.map (Value.int .u8)) hx (by simpa using hm) ?_ (ints_oneCell _ _) (by unfold maxLen;omega) (by omega) hB ?_
   ·intro j u hj
    obtain ⟨hj',hv⟩:=List.getElem?_eq_some_iff.1 hj
    rw [List.length_map] at hj'
    rcases hX.cells with e | ⟨b,off,e,hc⟩
    ·subst e;simp at hj'
    ·obtain rfl:=Option.some.inj e
     rw [Addr.add_lit,hc j hj',<- hv]
     simp
   ·intro v' w' h1 h2 _
    have hb':Below B w0 w':=hb.grown h2 hB (fun k hk=>(hown.lt k hk).1)
    have hB':B<=w'.heap.size:=Nat.le_trans hB h2.size
    have e:∃ a' c',v' = .slice a' (ys.length+m) c':=by
     rcases h1.2 with ⟨hv,hn⟩|⟨g,cap,_,hv,_⟩
     ·exact ⟨none,0,by rw [hv,hn]⟩
     ·exact ⟨_,_,hv⟩
    obtain ⟨a',c',rfl⟩:=e
    refine h a' c' w' ?_ hb' hB'
    show Own _ _ _ _ _
    unfold Own
    rw [List.length_append,hm,List.map_append]
    exact h1
theorem pow_bd (n:Int) (k:Nat) (h1:n<=9223372036854775807) (h:k=0∨(128:Int) ^ k<=n):k<=8:=by
 rcases h with h | h
 ·omega
 ·have:(128:Int) ^ k<128 ^ 9:=Int.lt_of_le_of_lt h (by omega)
  have h':(128:Nat) ^ k<128 ^ 9:=by exact_mod_cast this
  have:=(Nat.pow_lt_pow_iff_right (by omega)).1 h'
  omega
theorem oneByte (w:World) (z:Int) (h:0<=z∧z<=255):Bytes (w.alloc (.cells #[.int .u8 z] 5)) (some ⟨w.heap.size,0,none⟩) 1 [z]:=by
 have hr:Row (w.alloc (.cells #[.int .u8 z] 5)) w.heap.size [z]:=heap_alloc_new w _
 exact hr.bytes (by simpa using h) 1 rfl
theorem belowAlloc {B:Nat} {w0 w:World} (h:Below B w0 w) (hB:B<=w.heap.size) (o:Obj):Below B w0 (w.alloc o)∧B<=(w.alloc o).heap.size:=by
 refine ⟨h.alloc hB o,?_⟩
 simp
 omega
set_option maxHeartbeats 1000000 in
theorem rput_any (a:Option Addr) (len cap:Nat) (xs:List Int) (n:Int) (w:World) (hl:len+9<=140737488355328) (h0 : -9223372036854775808<=n) (h1:n<=9223372036854775807) (hB:Bytes w a len xs) (hnil:a=none->cap=0) :
  Calls Tryz.prog 63 #[.slice a len cap,.int .i64 n] w fun e w'=>∃ a' c',e = .returned (.slice a' (len+(putL n).length) c')∧Own w' w.heap.size a' c' (xs++putL n)∧Below w.heap.size w w':=by
 have H:Hid (Bytes w a len xs):=hB
 have HN:Hid (a=none->cap=0):=hnil
 clear hB hnil
 by_cases hn:n<0
 ·have hp:putL n=[]:=by simp [putL,hn]
  go_enter Tryz.func63,Tryz.ntmps63
  go_wp2_with (at_builtin;refine wpList_append_bytes rfl (.const (.slice none 0 0)) (.tmp 6) rfl w.heap.size none 0 0 [] rfl rfl (Own.nil _ _) a len cap xs rfl H.out HN.out (by omega) w (Below.refl _ _) (Nat.le_refl _) ?_;intro a1 c1 w1 HO hb hB1)
  go_ret
  refine ⟨a1,c1,?_,?_,hb⟩
  ·rw [hp];simp
  ·rw [hp];simpa using HO.out
 ·go_enter Tryz.func63,Tryz.ntmps63
  go_wp2_with (at_builtin;refine wpList_append_bytes rfl (.const (.slice none 0 0)) (.tmp 6) rfl w.heap.size none 0 0 [] rfl rfl (Own.nil _ _) a len cap xs rfl H.out HN.out (by omega) w (Below.refl _ _) (Nat.le_refl _) ?_;intro a1 c1 w1 HO hb hB1)
  go_loopw [1,5] (fun x v wr=>∃ (k:Nat) (a2:Option Addr) (c2:Nat),x = .int .i64 (n/128 ^ k)∧v = .slice a2 (len+k) c2∧Hid (Own wr w.heap.size a2 c2 (xs++digs n k))∧Below w.heap.size w wr∧w.heap.size<=wr.heap.size∧Hid (k=0∨(128:Int) ^ k<=n)) (fun x _ _=>(intOf x).toNat)
  case atStart=>exact ⟨0,a1,c1,by simp,by simp,(show Own _ _ _ _ _ by simpa [digs] using HO.out),hb,hB1,.inl rfl⟩
  case round =>
   obtain ⟨k,a2,c2,rfl,rfl,HO2,hb2,hB2,HK⟩:=hrel
   clear HO hb hB1
   have hk8:k<=8:=pow_bd n k h1 HK.out
   have hlen:(xs++digs n k).length=len+k:=by rw [List.length_append,digs_len,H.out.n]
   have HL:Hid ((xs++digs n k).length=len+k):=hlen
   clear hlen
   have m0:0<=n/128 ^ k:=div_pow_nonneg n k (by omega)
   have m1:n/128 ^ k<=n:=div_pow_le n k (by omega)
   obtain ⟨m,hm⟩:∃ m,m=n/128 ^ k:=⟨_,rfl⟩
   rw [<- hm] at m0 m1
   rw [<- hm]
   have HM:Hid (m=n/128 ^ k):=hm
   clear hm
   by_cases hge:128<=m
   ·have HO3:Hid (Own (wr.alloc (.cells #[.int .u8 (m%128+128)] 5)) w.heap.size a2 c2 (xs++digs n k)):=HO2.out.later ((Below.refl _ _).alloc (Nat.le_refl _) _)
    have HB3:Hid _:=oneByte wr (m%128+128) (by omega)
    have HA3:Hid _:=belowAlloc hb2 hB2 (.cells #[.int .u8 (m%128+128)] 5)
    go_wp2_with (at_builtin;refine wpList_append_bytes rfl (.tmp 13) (.tmp 18) rfl w.heap.size a2 (len+k) c2 (xs++digs n k) HL.out rfl HO3.out _ 1 1 [m%128+128] rfl HB3.out (fun h=>by cases h) (by omega) w HA3.out.1 HA3.out.2 ?_;intro a4 c4 w4 HO4 hb4 hB4)
    go_roundw
    case rel =>
     refine ⟨k+1,a4,c4,by rw [div_pow_succ,<- HM.out],by simp [Nat.add_assoc],?_,hb4,hB4,.inr (div_pow_ge n k (by rw [<- HM.out];exact hge))⟩
     have:=HO4.out
     rw [List.append_assoc,HM.out,<- digs_succ] at this
     exact this
    case measure=>simp [intOf];omega
   ·have HO3:Hid (Own (wr.alloc (.cells #[.int .u8 m] 5)) w.heap.size a2 c2 (xs++digs n k)):=HO2.out.later ((Below.refl _ _).alloc (Nat.le_refl _) _)
    have HB3:Hid _:=oneByte wr m (by omega)
    have HA3:Hid _:=belowAlloc hb2 hB2 (.cells #[.int .u8 m] 5)
    have HP:Hid (putL n=digs n k++[m]):=by
     have:=putL_stop n (by omega) (by omega) k HK.out (by rw [<- HM.out];omega)
     rw [<- HM.out] at this
     exact this
    go_wp2_with (at_builtin;refine wpList_append_bytes rfl (.tmp 22) (.tmp 25) rfl w.heap.size a2 (len+k) c2 (xs++digs n k) HL.out rfl HO3.out _ 1 1 [m] rfl HB3.out (fun h=>by cases h) (by omega) w HA3.out.1 HA3.out.2 ?_;intro a4 c4 w4 HO4 hb4 hB4)
    go_ret
    refine ⟨a4,c4,?_,?_,hb4⟩
    ·rw [HP.out,List.length_append,digs_len];rfl
    ·have:=HO4.out
     rw [List.append_assoc,<- HP.out] at this
     exact this
end Go.Proofs.YtlllmmceoeihkaaGreat.K
