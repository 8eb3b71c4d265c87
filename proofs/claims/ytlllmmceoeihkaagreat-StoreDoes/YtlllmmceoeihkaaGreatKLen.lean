/-
  The library's Len64 and Len answer, for every number from 0 to 2^64 - 1, how many bits the number has, and turn nothing.
-/
import Derived.Test.YtlllmmceoeihkaaGreatProg
import Derived.Lib.BitFns
import Derived.Lib.Walk
namespace Go.Proofs.YtlllmmceoeihkaaGreat.K
theorem lenCut (x y:Int) (k p:Nat) (hp:p=2 ^ k) (hx0:0<=x) (h:k=0∨(p:Int)<=x) (hx:x<=18446744073709551615) (h0:0<=y) (h1:y<=255) (hy:y.toNat=x.toNat/p) :
  Lib.len8 y=Lib.bitLen y.toNat∧Lib.bitLen y.toNat<=8∧Lib.bitLen x.toNat=k+Lib.bitLen y.toNat:=by
 refine ⟨Lib.len8_of y h0 h1,Lib.bitLen_le8' y h0 h1,?_⟩
 subst hp
 rcases h with rfl | h
 ·rw [hy];simp
 ·rw [hy,Lib.bitLen_shift k x.toNat (by omega) (by omega)]
set_option maxHeartbeats 4000000 in
set_option maxRecDepth 100000 in
theorem len64 (x:Int) (w:World) (h0:0<=x) (h1:x<=18446744073709551615) :
  Calls Tryz.prog 152 #[.int .u64 x] w fun e w'=>e = .returned (.int .i64 (Lib.bitLen x.toNat))∧w'=w:=by
 go_enter Tryz.func152,Tryz.ntmps152
 go_wp2
 all_goals (go_ret;refine ⟨congrArg Ending.returned (congrArg (Value.int IntKind.i64) ?_),rfl⟩)
 all_goals first
  | (rw [show Lib.len8 (x/4294967296/65536/256%256)=Lib.bitLen (x/4294967296/65536/256%256).toNat from Lib.len8_of (x/4294967296/65536/256%256) (by omega) (by omega)];obtain ⟨_,l,c⟩:=lenCut x (x/4294967296/65536/256%256) 56 72057594037927936 (by decide) h0 (.inr (by omega)) h1 (by omega) (by omega) (by omega);omega)
  | (rw [show Lib.len8 (x/4294967296/65536%256)=Lib.bitLen (x/4294967296/65536%256).toNat from Lib.len8_of (x/4294967296/65536%256) (by omega) (by omega)];obtain ⟨_,l,c⟩:=lenCut x (x/4294967296/65536%256) 48 281474976710656 (by decide) h0 (.inr (by omega)) h1 (by omega) (by omega) (by omega);omega)
  | (rw [show Lib.len8 (x/4294967296/256%256)=Lib.bitLen (x/4294967296/256%256).toNat from Lib.len8_of (x/4294967296/256%256) (by omega) (by omega)];obtain ⟨_,l,c⟩:=lenCut x (x/4294967296/256%256) 40 1099511627776 (by decide) h0 (.inr (by omega)) h1 (by omega) (by omega) (by omega);omega)
  | (rw [show Lib.len8 (x/4294967296%256)=Lib.bitLen (x/4294967296%256).toNat from Lib.len8_of (x/4294967296%256) (by omega) (by omega)];obtain ⟨_,l,c⟩:=lenCut x (x/4294967296%256) 32 4294967296 (by decide) h0 (.inr (by omega)) h1 (by omega) (by omega) (by omega);omega)
  | (rw [show Lib.len8 (x/65536/256%256)=Lib.bitLen (x/65536/256%256).toNat from Lib.len8_of (x/65536/256%256) (by omega) (by omega)];obtain ⟨_,l,c⟩:=lenCut x (x/65536/256%256) 24 16777216 (by decide) h0 (.inr (by omega)) h1 (by omega) (by omega) (by omega);omega)
  | (rw [show Lib.len8 (x/65536%256)=Lib.bitLen (x/65536%256).toNat from Lib.len8_of (x/65536%256) (by omega) (by omega)];obtain ⟨_,l,c⟩:=lenCut x (x/65536%256) 16 65536 (by decide) h0 (.inr (by omega)) h1 (by omega) (by omega) (by omega);omega)
  | (rw [show Lib.len8 (x/256%256)=Lib.bitLen (x/256%256).toNat from Lib.len8_of (x/256%256) (by omega) (by omega)];obtain ⟨_,l,c⟩:=lenCut x (x/256%256) 8 256 (by decide) h0 (.inr (by omega)) h1 (by omega) (by omega) (by omega);omega)
  | (rw [show Lib.len8 (x%256)=Lib.bitLen (x%256).toNat from Lib.len8_of (x%256) (by omega) (by omega)];obtain ⟨_,l,c⟩:=lenCut x (x%256) 0 1 (by decide) h0 (.inl rfl) h1 (by omega) (by omega) (by omega);omega)
theorem len (x:Int) (w:World) (h0:0<=x) (h1:x<=18446744073709551615) :
  Calls Tryz.prog 150 #[.int .u64 x] w fun e w'=>e = .returned (.int .i64 (Lib.bitLen x.toNat))∧w'=w:=by
 go_enter Tryz.func150,Tryz.ntmps150
 go_wp2_with (go_at_call 152;refine (len64 x _ h0 h1).mono ?_;rintro e w' ⟨rfl,rfl⟩)
 go_ret
 exact ⟨rfl,rfl⟩
end Go.Proofs.YtlllmmceoeihkaaGreat.K
