/-
  What the calls that only read bytes answer: Sum and Get of the program, and the document's Sum and Get, for every row of at most 2^47 bytes; none turns anything.
-/
import Derived.Test.YtlllmmceoeihkaaGreatProg
import Derived.Test.YtlllmmceoeihkaaGreatKAll
import Derived.Test.YtlllmmceoeihkaaGreatDv
import Derived.WalkKit
import Derived.WalkLawsBesides
import Derived.WalkSpells
namespace Go.Proofs.YtlllmmceoeihkaaGreat.K
open Go.RowKit
structure Bytes (w:World) (a:Option Addr) (len:Nat) (xs:List Int):Prop where
 n:xs.length=len
 cells:xs=[]∨∃ b off,a=some ⟨b,off,none⟩∧∀ k (h:k<xs.length),w.cell? ⟨b,off+k,none⟩=some (.int .u8 xs[k])
 fit:∀ z∈xs,0<=z∧z<=255
theorem Bytes.get {w:World} {a:Option Addr} {len:Nat} {xs:List Int} (h:Bytes w a len xs) (k:Nat) (hk:k<len) :
  ∃ b off z,a=some ⟨b,off,none⟩∧w.cell? ⟨b,off+k,none⟩=some (.int .u8 z)∧0<=z∧z<=255∧∃ h:k<xs.length,z=xs[k]:=by
 have hn:=h.n
 rcases h.cells with e | ⟨b,off,ha,hc⟩
 ·subst e;simp at hn;omega
 ·exact ⟨b,off,xs[k],ha,hc k (by omega),(h.fit _ (List.getElem_mem _)).1,(h.fit _ (List.getElem_mem _)).2,by omega,rfl⟩
set_option maxHeartbeats 2000000 in
theorem get_any (a:Option Addr) (len cap:Nat) (xs:List Int) (w:World) (hl:len<=140737488355328) (hB:Bytes w a len xs) :
  Calls Tryz.prog 146 #[.slice a len cap] w fun e w'=>e = .returned (.tuple #[.int .i64 (getL xs).1,.int .i64 (getL xs).2])∧w'=w:=by
 have H:Hid (Bytes w a len xs):=hB
 clear hB
 by_cases h5:len<=5
 ·go_enter Tryz.func146,Tryz.ntmps146
  go_wp2
  go_loop [4,9] (fun x i=>∃ k:Nat,k<=len∧k<=5∧i = .int .i64 k∧∃ acc:Int,x = .int .i64 acc∧Hid (getAt xs k acc=getL xs)∧0<=acc∧acc<128 ^ k) (fun _ i=>5-(intOf i).toNat)
  case atStart=>exact ⟨0,Nat.zero_le _,by omega,rfl,0,rfl,getAt_zero xs,by omega,by simp⟩
  case round =>
   obtain ⟨k,hk,hk5,rfl,acc,rfl,HG,a0,a1⟩:=hrel
   by_cases hlt:k<len∧k<5
   ·obtain ⟨h1,h2⟩:=hlt
    have hk01:k=0∨k=1∨k=2∨k=3∨k=4:=by omega
    rcases hk01 with rfl | rfl | rfl | rfl | rfl
    ·obtain ⟨b,off,z,rfl,hcell,z0,z1,hk',hz⟩:=H.out.get 0 (by omega)
     replace hcell:w.cell? ⟨b,off,none⟩=some (.int .u8 z):=hcell
     have HZ:Hid (z=xs[0]):=hz
     clear hz
     have b1:acc<1:=by simpa using a1
     clear a1
     have ha:=and7 z z0 z1
     have ho:=or0 acc (z%128) a0 b1 (by omega) (by omega)
     go_wp2
     ·go_round
      case rel=>exact ⟨1,by omega,by omega,rfl,_,rfl,(show getAt xs 1 _=getL xs by have e:=getAt_more xs 0 acc z hk' (by omega) HZ.out (by assumption);rw [HG.out] at e;simpa using e.symm),by omega,by simp;omega⟩
      case measure=>simp [intOf]
     ·go_ret2
      exact ⟨by rw [<- HG.out,getAt_last xs 0 acc z hk' (by omega) HZ.out (by assumption) (by simp;omega)];simp,rfl⟩
    ·obtain ⟨b,off,z,rfl,hcell,z0,z1,hk',hz⟩:=H.out.get 1 (by omega)
     have HZ:Hid (z=xs[1]):=hz
     clear hz
     have b1:acc<128:=by simpa using a1
     clear a1
     have ha:=and7 z z0 z1
     have ho:=or1 acc (z%128) a0 b1 (by omega) (by omega)
     go_wp2
     ·go_round
      case rel=>exact ⟨2,by omega,by omega,rfl,_,rfl,(show getAt xs 2 _=getL xs by have e:=getAt_more xs 1 acc z hk' (by omega) HZ.out (by assumption);rw [HG.out] at e;simpa using e.symm),by omega,by simp;omega⟩
      case measure=>simp [intOf]
     ·go_ret2
      exact ⟨by rw [<- HG.out,getAt_last xs 1 acc z hk' (by omega) HZ.out (by assumption) (by simp;omega)];simp,rfl⟩
    ·obtain ⟨b,off,z,rfl,hcell,z0,z1,hk',hz⟩:=H.out.get 2 (by omega)
     have HZ:Hid (z=xs[2]):=hz
     clear hz
     have b1:acc<16384:=by simpa using a1
     clear a1
     have ha:=and7 z z0 z1
     have ho:=or2 acc (z%128) a0 b1 (by omega) (by omega)
     go_wp2
     ·go_round
      case rel=>exact ⟨3,by omega,by omega,rfl,_,rfl,(show getAt xs 3 _=getL xs by have e:=getAt_more xs 2 acc z hk' (by omega) HZ.out (by assumption);rw [HG.out] at e;simpa using e.symm),by omega,by simp;omega⟩
      case measure=>simp [intOf]
     ·go_ret2
      exact ⟨by rw [<- HG.out,getAt_last xs 2 acc z hk' (by omega) HZ.out (by assumption) (by simp;omega)];simp,rfl⟩
    ·obtain ⟨b,off,z,rfl,hcell,z0,z1,hk',hz⟩:=H.out.get 3 (by omega)
     have HZ:Hid (z=xs[3]):=hz
     clear hz
     have b1:acc<2097152:=by simpa using a1
     clear a1
     have ha:=and7 z z0 z1
     have ho:=or3 acc (z%128) a0 b1 (by omega) (by omega)
     go_wp2
     ·go_round
      case rel=>exact ⟨4,by omega,by omega,rfl,_,rfl,(show getAt xs 4 _=getL xs by have e:=getAt_more xs 3 acc z hk' (by omega) HZ.out (by assumption);rw [HG.out] at e;simpa using e.symm),by omega,by simp;omega⟩
      case measure=>simp [intOf]
     ·go_ret2
      exact ⟨by rw [<- HG.out,getAt_last xs 3 acc z hk' (by omega) HZ.out (by assumption) (by simp;omega)];simp,rfl⟩
    ·obtain ⟨b,off,z,rfl,hcell,z0,z1,hk',hz⟩:=H.out.get 4 (by omega)
     have HZ:Hid (z=xs[4]):=hz
     clear hz
     have b1:acc<268435456:=by simpa using a1
     clear a1
     have ha:=and7 z z0 z1
     have ho:=or4 acc (z%128) a0 b1 (by omega) (by omega)
     go_wp2
     ·go_round
      case rel=>exact ⟨5,by omega,by omega,rfl,_,rfl,(show getAt xs 5 _=getL xs by have e:=getAt_more xs 4 acc z hk' (by omega) HZ.out (by assumption);rw [HG.out] at e;simpa using e.symm),by omega,by simp;omega⟩
      case measure=>simp [intOf]
     ·go_ret2
      exact ⟨by rw [<- HG.out,getAt_great xs 4 acc z hk' (by omega) HZ.out (by assumption) (by simp;omega)];rfl,rfl⟩
     ·go_ret2
      exact ⟨by rw [<- HG.out,getAt_last xs 4 acc z hk' (by omega) HZ.out (by assumption) (by simp;omega)];simp,rfl⟩
   ·clear a1
    have hx:Hid (getAt xs k acc=(0,0)):=getAt_out xs k acc (by have:=H.out.n;omega)
    go_wp2
    go_ret2
    exact ⟨by rw [<- HG.out,hx.out];rfl,rfl⟩
 ·go_enter Tryz.func146,Tryz.ntmps146
  go_wp2
  go_loop [4,9] (fun x i=>∃ k:Nat,k<=len∧k<=5∧i = .int .i64 k∧∃ acc:Int,x = .int .i64 acc∧Hid (getAt xs k acc=getL xs)∧0<=acc∧acc<128 ^ k) (fun _ i=>5-(intOf i).toNat)
  case atStart=>exact ⟨0,Nat.zero_le _,by omega,rfl,0,rfl,getAt_zero xs,by omega,by simp⟩
  case round =>
   obtain ⟨k,hk,hk5,rfl,acc,rfl,HG,a0,a1⟩:=hrel
   by_cases hlt:k<len∧k<5
   ·obtain ⟨h1,h2⟩:=hlt
    have hk01:k=0∨k=1∨k=2∨k=3∨k=4:=by omega
    rcases hk01 with rfl | rfl | rfl | rfl | rfl
    ·obtain ⟨b,off,z,rfl,hcell,z0,z1,hk',hz⟩:=H.out.get 0 (by omega)
     replace hcell:w.cell? ⟨b,off,none⟩=some (.int .u8 z):=hcell
     have HZ:Hid (z=xs[0]):=hz
     clear hz
     have b1:acc<1:=by simpa using a1
     clear a1
     have ha:=and7 z z0 z1
     have ho:=or0 acc (z%128) a0 b1 (by omega) (by omega)
     go_wp2
     ·go_round
      case rel=>exact ⟨1,by omega,by omega,rfl,_,rfl,(show getAt xs 1 _=getL xs by have e:=getAt_more xs 0 acc z hk' (by omega) HZ.out (by assumption);rw [HG.out] at e;simpa using e.symm),by omega,by simp;omega⟩
      case measure=>simp [intOf]
     ·go_ret2
      exact ⟨by rw [<- HG.out,getAt_last xs 0 acc z hk' (by omega) HZ.out (by assumption) (by simp;omega)];simp,rfl⟩
    ·obtain ⟨b,off,z,rfl,hcell,z0,z1,hk',hz⟩:=H.out.get 1 (by omega)
     have HZ:Hid (z=xs[1]):=hz
     clear hz
     have b1:acc<128:=by simpa using a1
     clear a1
     have ha:=and7 z z0 z1
     have ho:=or1 acc (z%128) a0 b1 (by omega) (by omega)
     go_wp2
     ·go_round
      case rel=>exact ⟨2,by omega,by omega,rfl,_,rfl,(show getAt xs 2 _=getL xs by have e:=getAt_more xs 1 acc z hk' (by omega) HZ.out (by assumption);rw [HG.out] at e;simpa using e.symm),by omega,by simp;omega⟩
      case measure=>simp [intOf]
     ·go_ret2
      exact ⟨by rw [<- HG.out,getAt_last xs 1 acc z hk' (by omega) HZ.out (by assumption) (by simp;omega)];simp,rfl⟩
    ·obtain ⟨b,off,z,rfl,hcell,z0,z1,hk',hz⟩:=H.out.get 2 (by omega)
     have HZ:Hid (z=xs[2]):=hz
     clear hz
     have b1:acc<16384:=by simpa using a1
     clear a1
     have ha:=and7 z z0 z1
     have ho:=or2 acc (z%128) a0 b1 (by omega) (by omega)
     go_wp2
     ·go_round
      case rel=>exact ⟨3,by omega,by omega,rfl,_,rfl,(show getAt xs 3 _=getL xs by have e:=getAt_more xs 2 acc z hk' (by omega) HZ.out (by assumption);rw [HG.out] at e;simpa using e.symm),by omega,by simp;omega⟩
      case measure=>simp [intOf]
     ·go_ret2
      exact ⟨by rw [<- HG.out,getAt_last xs 2 acc z hk' (by omega) HZ.out (by assumption) (by simp;omega)];simp,rfl⟩
    ·obtain ⟨b,off,z,rfl,hcell,z0,z1,hk',hz⟩:=H.out.get 3 (by omega)
     have HZ:Hid (z=xs[3]):=hz
     clear hz
     have b1:acc<2097152:=by simpa using a1
     clear a1
     have ha:=and7 z z0 z1
     have ho:=or3 acc (z%128) a0 b1 (by omega) (by omega)
     go_wp2
     ·go_round
      case rel=>exact ⟨4,by omega,by omega,rfl,_,rfl,(show getAt xs 4 _=getL xs by have e:=getAt_more xs 3 acc z hk' (by omega) HZ.out (by assumption);rw [HG.out] at e;simpa using e.symm),by omega,by simp;omega⟩
      case measure=>simp [intOf]
     ·go_ret2
      exact ⟨by rw [<- HG.out,getAt_last xs 3 acc z hk' (by omega) HZ.out (by assumption) (by simp;omega)];simp,rfl⟩
    ·obtain ⟨b,off,z,rfl,hcell,z0,z1,hk',hz⟩:=H.out.get 4 (by omega)
     have HZ:Hid (z=xs[4]):=hz
     clear hz
     have b1:acc<268435456:=by simpa using a1
     clear a1
     have ha:=and7 z z0 z1
     have ho:=or4 acc (z%128) a0 b1 (by omega) (by omega)
     go_wp2
     ·go_round
      case rel=>exact ⟨5,by omega,by omega,rfl,_,rfl,(show getAt xs 5 _=getL xs by have e:=getAt_more xs 4 acc z hk' (by omega) HZ.out (by assumption);rw [HG.out] at e;simpa using e.symm),by omega,by simp;omega⟩
      case measure=>simp [intOf]
     ·go_ret2
      exact ⟨by rw [<- HG.out,getAt_great xs 4 acc z hk' (by omega) HZ.out (by assumption) (by simp;omega)];rfl,rfl⟩
     ·go_ret2
      exact ⟨by rw [<- HG.out,getAt_last xs 4 acc z hk' (by omega) HZ.out (by assumption) (by simp;omega)];simp,rfl⟩
   ·clear a1
    have hx:Hid (getAt xs k acc=(0,0)):=getAt_out xs k acc (by have:=H.out.n;omega)
    go_wp2
    go_ret2
    exact ⟨by rw [<- HG.out,hx.out];rfl,rfl⟩
end Go.Proofs.YtlllmmceoeihkaaGreat.K
