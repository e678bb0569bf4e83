/- Base. -/
import Derived.Test.YtgcieamfidoaoaaGreatDoorGbe
set_option linter.all false
set_option maxHeartbeats 8000000
set_option maxRecDepth 100000
namespace Go.Proofs.YtgcieamfidoaoaaGreatDoor
open Pl Go.Proofs.Tryz
open Go.RowKit
theorem RX (v:Nat) (h:v<9223372036854775808):bits .and .i64 (v:Int) 1=((v%2:Nat):Int):=by
 have key:(BitVec.ofInt 64 (v:Int)&&&BitVec.ofInt 64 1).toNat=v%2:=by grind
 show IntKind.i64.wrap ((BitVec.ofInt 64 (v:Int)&&&BitVec.ofInt 64 1).toNat:Nat)=_;rw [key,IntKind.wrap_i64];omega
theorem JF (x:Nat) (h0:x≠0) (h:x<4294967296):limbs x=[x]:=by rw [iG h0,Nat.mod_eq_of_lt h,Nat.div_eq_of_lt h,bF]
theorem RY (a n i:Nat):a^(n/2^i)=a^(n/2^(i+1))*a^(n/2^(i+1))*(if n/2^i%2=1 then a else 1):=by
 have e:n/2^(i+1)=n/2^i/2:=by rw [Nat.pow_succ,Nat.div_div_eq_div_mul]
 rw [e,← Nat.pow_add];split
 · rw [← Nat.pow_succ];congr 1;omega
 grind
theorem aew (K:Nat) (hK:K≤1000) (hMul:∀ (W:World) (va vb:Value) (n m:Nat),Un W va n→Un W vb m→(limbs n).length≤K→(limbs m).length≤K→Calls prog 94 #[va,vb] W fun e w'=>∃ u,e = .returned u∧Un w' u (n*m)∧Ext W w') (w:World) (va:Value) (a n:Nat) (hu:Un w va a) (h1:1≤a) (hal:(limbs a).length≤K) (hlim:(limbs (a^n)).length≤K) (hn:n≤100000) (k:Nat) (hk:a^n=k) :A0l 89 #[va,.int .i64 (n:Nat)] w k:=by
 subst hk;have HAL:Hid (∀ x,x=a→(limbs x).length≤K):=fun x e=>by rw [e];exact hal
 have YZ:Hid (∀ e,e≤n→(limbs (a^e)).length≤K):=fun e he=>Sn.down (n:=a^n) (K:=K) hlim (Nat.pow_le_pow_right h1 he);have HMul:=Lib.hid hMul;clear hMul hlim hK h1;have hHF:=Lib.hid (RY a n);have hlen:=Lib.hid (fun W=>RZ W n (by omega));have hbl:n<2^dI n:=jV n;have ahP:dI n≤20:=eu (Nat.lt_of_le_of_lt hn (by decide));obtain ⟨L,hL⟩:∃ L,dI n=L:=⟨_,rfl⟩;rw [hL] at hlen hbl ahP;have hz0:Hid (n/2^L=0):=Nat.div_eq_of_lt hbl;obtain ⟨A,ca,rfl,hca⟩:=U.shape (U.gH hu);have akh:(if (n:Int)<0 then (0:Int) else (n:Int))=(n:Int):=by split<;>omega
 have aki:max (n:Int) 0=(n:Int):=by omega
 have akj:(if (0:Int)<(n:Int) then (n:Int) else 0)=(n:Int):=by split<;>omega
 have akk:(if 0<n then (n:Int) else 0)=(n:Int):=by split<;>omega
 have hnw:IntKind.u64.wrap (n:Int)=(n:Int):=by rw [IntKind.wrap_u64];omega
 have hnm:(n:Int)%18446744073709551616=(n:Int):=by omega
 have hE0:=(Ext.refl w).alloc (.cells #[.int .u32 1] 57);have hone:Un (w.alloc (.cells #[.int .u32 1] 57)) (.slice (some ⟨w.heap.size,0,none⟩) 1 1) 1:=by have:=Lj w [1] (by simp) (by simp);rw [Un,JF 1 (by decide) (by decide)];exact this
 clear hL hbl hal;go_enter func89,ntmps89;go_wp2_with (fail);refine (hlen.out _).mono ?_;rintro e w1 ⟨rfl,rfl⟩;generalize (w.alloc (.cells #[.int .u32 1] 57))=w1 at *;have hu1:Un w1 (.slice A (limbs a).length ca) a:=U.below (U.gH hu) hE0;generalize (limbs a).length=la at *;clear hu;go_wp2;go_loopw [6,5] (fun t s wr=>∃ (j:Nat),j≤L∧t = .int .i64 ((j:Int)-1)∧Un wr s (a^(n/2^j))∧Un wr (.slice A la ca) a∧Ext w wr) (fun t _ _=>((intOf t)+1).toNat);case atStart=>exact ⟨L,Nat.le_refl _,rfl,by rw [hz0.out,Nat.pow_zero];exact hone,hu1,hE0⟩
 case round =>
  clear hone hu1 hE0;obtain ⟨j,hj,rfl,hz,El,hE⟩:=hrel;rcases j with _ | i
  · have hd:decide ((0:Int)≤((0:Nat):Int)-1)=false:=(by decide);obtain ⟨A2,c2,rfl,hcc⟩:=U.shape (U.gH hz);have HF:Hid (∃ u',Ending.returned (.slice A2 (limbs (a^(n/2^0))).length c2) = .returned u'∧Un wr u' (a^n)∧Ext w wr):=⟨_,rfl,by rw [Nat.pow_zero,Nat.div_one] at hz ⊢;exact hz,hE⟩;clear hz hE;go_wp2;go_ret;exact HF.out
  · have hi1:((i+1:Nat):Int)-1=(i:Int):=(by omega);rw [hi1];obtain ⟨A2,c2,rfl,hcc⟩:=U.shape (U.gH hz);have hle:n/2^(i+1)≤n:=Nat.div_le_self _ _;have hle2:n/2^i≤n:=Nat.div_le_self _ _;obtain ⟨v,hv⟩:∃ v,n/2^i=v:=⟨_,rfl⟩;obtain ⟨p,hp⟩:∃ p,n/2^(i+1)=p:=⟨_,rfl⟩;have hhf:=hHF.out i;rw [hv,hp] at hhf;rw [hp] at hz hle ⊢;rw [hv] at hle2;have hvi:(n:Int)/2^i=(v:Int):=(by rw [← hv,Int.natCast_ediv,Int.natCast_pow];rfl);have hand:=RX v (by omega);have hpp:(limbs (a^p*a^p)).length≤K:=(by rw [← Nat.pow_add];refine YZ.out _ ?_;have:n/2^(i+1)=n/2^i/2:=(by rw [Nat.pow_succ,Nat.div_div_eq_div_mul]);rw [hp,hv] at this;omega);have hM:=Lib.hid (HMul.out wr _ _ (a^p) (a^p) hz hz (YZ.out p hle) (YZ.out p hle));have HV:=Lib.hid hv;generalize (limbs (a^p)).length=lz at *;clear hz hp hv;by_cases hb:v%2=1
    · rw [hb] at hand;rw [if_pos hb] at hhf;have UR:=Lib.hid hhf;have hbe:(bits .and .i64 (v:Int) 1==1)=true:=(by rw [hand];rfl);clear hb hhf hand;go_wp2_with (fail);refine hM.out.mono ?_;rintro e w2 ⟨u,rfl,hu2,hB⟩;replace El:=U.below (U.gH El) hB;replace hE:=hE.below hB;obtain ⟨A3,c3,rfl,hc3⟩:=U.shape (U.gH hu2);have hM2:=Lib.hid (HMul.out w2 _ _ (a^p*a^p) a hu2 El hpp (HAL.out a rfl));clear hM hB hu2;generalize (limbs (a^p*a^p)).length=lz2 at *;go_wp2_with (fail);refine hM2.out.mono ?_;rintro e w3 ⟨u,rfl,hu3,hB⟩;replace El:=U.below El hB;replace hE:=hE.below hB;rw [← UR.out] at hu3;obtain ⟨A4,c4,rfl,hc4⟩:=U.shape (U.gH hu3);have HU:Hid (Un w3 (.slice A4 (limbs (a^v)).length c4) (a^(n/2^i))):=(by rw [Hid,HV.out];exact hu3);generalize (limbs (a^v)).length=lz4 at *;clear hM2 hB hu3 UR;go_wp2;go_roundw;case rel=>exact ⟨i,by omega,rfl,HU.out,El,hE⟩
      case measure=>simp [intOf]
    · have hb0:v%2=0:=(by omega);rw [hb0] at hand;rw [if_neg hb,Nat.mul_one] at hhf;have UR:=Lib.hid hhf;have hbe:(bits .and .i64 (v:Int) 1==1)=false:=(by rw [hand];rfl);clear hb hb0 hhf hand;go_wp2_with (fail);refine hM.out.mono ?_;rintro e w2 ⟨u,rfl,hu2,hB⟩;replace El:=U.below (U.gH El) hB;replace hE:=hE.below hB;rw [← UR.out] at hu2;obtain ⟨A3,c3,rfl,hc3⟩:=U.shape (U.gH hu2);have HU:Hid (Un w2 (.slice A3 (limbs (a^v)).length c3) (a^(n/2^i))):=(by rw [Hid,HV.out];exact hu2);generalize (limbs (a^v)).length=lz4 at *;clear hM hB hu2 UR;go_wp2;go_roundw;case rel=>exact ⟨i,by omega,rfl,HU.out,El,hE⟩
      case measure=>simp [intOf]
theorem ab0 (W:World) (va vb:Value) (n m:Nat) (ha:Un W va n) (hb:Un W vb m) (h1:(limbs n).length≤78) (h2:(limbs m).length≤78) :A0l 94 #[va,vb] W (n*m):=by refine (aaQ W va vb _ _ ha hb (by omega) (by omega) (by omega)).mono ?_;rw [aM,aM];grind
section
variable {x y:Operand}
theorem zJ {c:Nat} (h:c<18446744073709551616):IntKind.u64.wrap (c:Int)=(c:Int):=by rw [IntKind.wrap_u64];omega
theorem WR {a b:Nat} (h0:0<b) (hb:b<18446744073709551616) (X:World):(do eqGuard .rem 111 x y (.int .u64 (a:Int)) (.int .u64 (b:Int));binOp .rem 111 (.int .u64 (a:Int)) (.int .u64 (b:Int)):Sem Value).run prog X = .ok (.int .u64 ((a%b:Nat):Int)) X:=by
 have hc:=Nat.mod_lt a h0;have e:Int.tmod (a:Int) (b:Int)=((a%b:Nat):Int):=rfl;have w1:=zJ (c:=a%b) (by omega);have hz:¬ ((b:Int)=0):=by omega
 have hn:¬ b=0:=by omega
 clear hc;generalize a%b=c at *;go_simp
theorem abn {a b:Nat} (h0:0<b) (ha:a<18446744073709551616) (X:World):(do eqGuard .quo 111 x y (.int .u64 (a:Int)) (.int .u64 (b:Int));binOp .quo 111 (.int .u64 (a:Int)) (.int .u64 (b:Int)):Sem Value).run prog X = .ok (.int .u64 ((a/b:Nat):Int)) X:=by
 have hc:=Nat.div_le_self a b;have e:Int.tdiv (a:Int) (b:Int)=((a/b:Nat):Int):=rfl;have w1:=zJ (c:=a/b) (by omega);have hz:¬ ((b:Int)=0):=by omega
 have hn:¬ b=0:=by omega
 clear hc;generalize a/b=c at *;go_simp
theorem uF {a b c:Nat} (h:a+b=c) (hc:c<18446744073709551616) (X:World):(do eqGuard .add 111 x y (.int .u64 (a:Int)) (.int .u64 (b:Int));binOp .add 111 (.int .u64 (a:Int)) (.int .u64 (b:Int)):Sem Value).run prog X = .ok (.int .u64 (c:Int)) X:=by
 have e:(a:Int)+(b:Int)=(c:Int):=by omega
 have w1:=zJ hc;clear h hc;go_simp
theorem abo {a b c:Nat} (h:b≤a) (e':a-b=c) (ha:a<18446744073709551616) (X:World):(do eqGuard .sub 111 x y (.int .u64 (a:Int)) (.int .u64 (b:Int));binOp .sub 111 (.int .u64 (a:Int)) (.int .u64 (b:Int)):Sem Value).run prog X = .ok (.int .u64 (c:Int)) X:=by
 have e:(a:Int)-(b:Int)=(c:Int):=by omega
 have w1:=zJ (c:=c) (by omega);clear h e' ha;go_simp
theorem yR {a b c:Nat} (h:a*b=c) (hc:c<18446744073709551616) (X:World):(do eqGuard .mul 111 x y (.int .u64 (a:Int)) (.int .u64 (b:Int));binOp .mul 111 (.int .u64 (a:Int)) (.int .u64 (b:Int)):Sem Value).run prog X = .ok (.int .u64 (c:Int)) X:=by
 have e:(a:Int)*(b:Int)=(c:Int):=by rw [← h,Int.natCast_mul]
 have w1:=zJ hc;clear h hc;go_simp
theorem abp {a b:Int} {v:Bool} (h:(a != b)=v) (X:World):(do eqGuard .neq 111 x y (.int .u64 a) (.int .u64 b);binOp .neq 111 (.int .u64 a) (.int .u64 b):Sem Value).run prog X = .ok (.bool v) X:=by subst h;go_simp
theorem agh {a b:Int} {v:Bool} (h:(a==b)=v) (X:World):(do eqGuard .eql 111 x y (.int .u64 a) (.int .u64 b);binOp .eql 111 (.int .u64 a) (.int .u64 b):Sem Value).run prog X = .ok (.bool v) X:=by subst h;go_simp
theorem MV {a b:Int} {v:Bool} (h:decide (b≤a)=v) (X:World):(do eqGuard .geq 111 x y (.int .u64 a) (.int .u64 b);binOp .geq 111 (.int .u64 a) (.int .u64 b):Sem Value).run prog X = .ok (.bool v) X:=by subst h;go_simp
end
theorem acW (w:World) (a b:Nat) (ha:a<18446744073709551616) (hb:b<18446744073709551616) :A0k 182 #[.int .u64 (a:Int),.int .u64 (b:Int)] w (.int .u64 (Nat.gcd a b:Nat)):=by
 refine d9 (n:=12) (vs:=[.int .u64 (a:Int),.int .u64 (b:Int)]) func182 rfl (by kernel_rfl) (by simp)<|bu<|ed (by kernel_rfl)<|aZ trivial rfl<|aT<|bu<|nE [(0,.int .u64 (a:Int)),(1,.int .u64 (b:Int))] (aB rfl (aB rfl fK))<|lK<|xE (fun k l' w'=>∃ (x y:Nat),k=y∧Nat.gcd x y=Nat.gcd a b∧x<18446744073709551616∧y<18446744073709551616∧Ext w w'∧l'=[(0,.int .u64 (x:Int)),(1,.int .u64 (y:Int))]) b ⟨a,b,rfl,rfl,ha,hb,Ext.refl w,rfl⟩ ?_;rintro y _ w1 ⟨x,_,rfl,hgk,hx,hy,hE,rfl⟩;rcases Nat.eq_zero_or_pos y with hy0 | hy0
 · exact bu<|bu<|ed (by kernel_rfl)<|aZ trivial rfl<|bK (v:=(.bool false)) trivial rfl rfl rfl rfl rfl rfl (fun X=>abp (by simp;omega) X)<|aT<|iR rfl<|xG<|bu<|ed (by kernel_rfl)<|aZ trivial rfl<|aT<|jR rfl rfl<|⟨by rw [← hgk,hy0,Nat.gcd_zero_right],hE⟩
 · refine bu<|bu<|ed (by kernel_rfl)<|aZ trivial rfl<|bK (v:=(.bool true)) trivial rfl rfl rfl rfl rfl rfl (fun X=>abp (by simp;omega) X)<|aT<|lI rfl<|jP<|lK<|qc (S:=fun X=>Ext w1 X) [(true,0,0),(true,1,1),(true,2,3),(true,3,7),(true,4,15),(true,5,31)] fo (by repeat first | exact gY | refine Gt ?_ | refine Kk ?_ | refine Pl.abq ?_) (by kernel_rfl) (Ext.drew (Ext.refl w1)) ?_;generalize w1.drew=w2;intro hB2;have hS2:=hB2;exact aZ hS2 rfl<|bK (v:=(.int .u64 ((x%y:Nat):Int))) hS2 rfl rfl rfl rfl rfl rfl (fun X=>WR hy0 hy X)<|aZ hS2 rfl<|aT<|jQ<|pq [(0,.int .u64 (y:Int)),(1,.int .u64 ((x%y:Nat):Int))] (aB rfl (aB rfl fK)) (Nat.mod_lt x hy0) ⟨y,x%y,rfl,(xH x y).trans hgk,hy,Nat.lt_trans (Nat.mod_lt x hy0) hy,hE.below hB2,rfl⟩
