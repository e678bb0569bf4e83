/- Small laws for the walk's printer (ax.py): numbers of unsigned kinds, comparisons, contracts of naturals in the printer's form. -/
import Derived.Test.YtdpmbgomcjnohaaGreatDoorBab
import Derived.Test.YtdpmbgomcjnohaaGreatDoorBap
import Derived.Test.YtdpmbgomcjnohaaGreatDoorBar
import Derived.Test.YtdpmbgomcjnohaaGreatDoorBaq
import Derived.Test.YtdpmbgomcjnohaaGreatDoorBac
import Derived.Scope

namespace Go.Proofs.YtdpmbgomcjnohaaGreatDoor
open Go.RowKit
set_option linter.all false
set_option maxRecDepth 100000
set_option maxHeartbeats 8000000
theorem Sn.bits {n b K:Nat} (h:n<2^b) (hk:b≤32*K):Sn n K:=Sn.of (Nat.lt_of_lt_of_le h (by rw [show (4294967296:Nat)=2^32 from rfl,← Nat.pow_mul];exact Nat.pow_le_pow_right (by decide) hk))
theorem Sn.one {n K:Nat} (h:n<4294967296) (hk:1≤K):Sn n K:=Sn.bits (b:=32) h (by omega)
theorem Sn.two {n:Nat} (h:n<18446744073709551616):Sn n 2:=Sn.bits (b:=64) h (by omega)
theorem Un.as {w:World} {v:Value} {n m:Nat} (h:Un w v n) (e:n=m):Un w v m:=e ▸ h
theorem Un.one {w:World} {N:Nat} {T:TypeId} {x:Nat} {z:Int} (h:Pl.Cb w N T [.int .u32 z]) (hz:z=(x:Int)) (h0:x≠0∧x<4294967296):Un w (.slice (some ⟨N,0,none⟩) 1 1) x:=by
 subst hz
 rw [Un,mD x h0.1 h0.2]
 refine ⟨_,1,rfl,⟨by simp,by simp⟩,by simpa using h0.2,fun _=>⟨_,rfl,h.lt,fun j hj=>?_⟩⟩
 have:j=0:=by simpa using hj
 subst this
 rw [iF]
 exact h.at (j:=0) rfl
theorem Un.adD (w:World) (A:Option Addr) (c:Nat):Un w (.slice A 0 c) 0:=by rw [Un,aX];exact U.uW _ _ _
theorem Un.len {w:World} {A:Option Addr} {L c n:Nat} (h:Un w (.slice A L c) n):L=(limbs n).length:=by
 obtain ⟨A',c',e,_⟩:=h;injection e
theorem Un.WI {w:World} {v:Value} {n:Nat} (h:Un w v n):∃ A c,v = .slice A (limbs n).length c:=by
 obtain ⟨A',c',e,_⟩:=h;exact ⟨A',c',e⟩
theorem Cq (n m:Nat):(n<m∧bZ n m = -1)∨(n=m∧bZ n m=0)∨(m<n∧bZ n m=1):=by
 unfold bZ
 rcases Nat.lt_trichotomy n m with h | h | h
 · exact .inl ⟨h,if_pos (by omega)⟩
 · exact .inr (.inl ⟨h,by rw [if_neg (by omega),if_neg (by omega)]⟩)
 · exact .inr (.inr ⟨h,by rw [if_neg (by omega),if_pos (by omega)]⟩)
section
variable {P:Program} {T:TypeId} {x y:Operand} {n m:Nat}
theorem Cm.QB (h:n=m) (X:World):Pl.Bn P .eql T x y (.int .i64 (bZ n m)) (.int .i64 0) X = .ok (.bool true) X:=Pl.gW (Pl.e_t (by have:=Cq n m;omega)) X
theorem Cm.QC (h:¬ n=m) (X:World):Pl.Bn P .eql T x y (.int .i64 (bZ n m)) (.int .i64 0) X = .ok (.bool false) X:=Pl.gW (Pl.e_f (by have:=Cq n m;omega)) X
end
section
variable {P:Program} {T:TypeId} {x y:Operand} {a b:Nat} {za zb:Int}
theorem iG (h:a+b≤9223372036854775807) (X:World):Pl.Bn P .add T x y (.int .i64 ((a:Nat):Int)) (.int .i64 ((b:Nat):Int)) X = .ok (.int .i64 ((a+b:Nat):Int)) X:=Pl.VK (Pl.a64 rfl rfl h) X
theorem Pl.Bn.as {op:BinOp} {u u' v v':Value} (h:∀ X,Pl.Bn P op T x y u u' X = .ok v X) (e:v=v') (X:World):Pl.Bn P op T x y u u' X = .ok v' X:=e ▸ h X
end
section
variable {P:Program} {Q:Exit→Act→World→Prop} {n:Nat} {ds:List Deferred} {cs:List Code} {l:List (Nat × Value)} {w:World}
theorem Pl.QD {a:Act} (h:Q .ret a w):Exit.noGoto Q .ret a w:=h
end
end Go.Proofs.YtdpmbgomcjnohaaGreatDoor
/- Dyadic numbers as rationals; what is rounded. -/
namespace Go.Proofs.YtdpmbgomcjnohaaGreatDoor.Dy
set_option linter.all false
set_option maxRecDepth 100000
set_option maxHeartbeats 8000000
theorem Bq:(2:Rat)≠0:=by decide
theorem D8 (e:Int):(2:Rat)^e≠0:=Rat.ne_of_gt (Rat.zpow_pos (by decide))
theorem yF (e:Int):(0:Rat)<(2:Rat)^e:=Rat.zpow_pos (by decide)
theorem pE (a b:Int):(2:Rat)^(a+b)=2^a*2^b:=Rat.zpow_add Bq a b
theorem tq (k:Nat):(2:Rat)^(k:Int)=((2^k:Int):Rat):=by
 rw [Rat.zpow_natCast]
 induction k with
 | zero=>rfl
 | succ k ih=>rw [Rat.pow_succ,ih,Int.pow_succ,Rat.intCast_mul];rfl
def dv (m e:Int):Rat:=(m:Rat)*(2:Rat)^e
def Can (m e:Int):Prop:=m=0∧e=0∨m%2=1
theorem oN (e:Int):dv 0 e=0:=by unfold dv;exact Rat.zero_mul _
theorem qh (m e:Int) (k:Nat):dv (m*2^k) e=dv m (e+k):=by
 unfold dv
 rw [pE,tq,Rat.intCast_mul]
 grind
theorem vT {m e:Int}:dv m e=0↔m=0:=by
 unfold dv
 rw [Rat.mul_eq_zero]
 constructor
 · rintro (h | h)
   · exact Rat.intCast_inj.1 h
   · exact absurd h (D8 e)
 · rintro rfl;exact .inl rfl
theorem JQ {m n e:Int} (h:dv m e=dv n e):m=n:=by
 have h1:(m:Rat)*2^e*(2^e)⁻¹=(n:Rat)*2^e*(2^e)⁻¹:=by unfold dv at h;rw [h]
 rw [Rat.mul_assoc,Rat.mul_assoc,Rat.mul_inv_cancel _ (D8 e),Rat.mul_one,Rat.mul_one] at h1
 exact Rat.intCast_inj.1 h1
theorem pow_even {k:Nat} (h:k≠0) (m:Int):(m*2^k)%2=0:=by
 obtain ⟨j,rfl⟩:=Nat.exists_eq_succ_of_ne_zero h
 rw [Int.pow_succ,← Int.mul_assoc]
 omega
theorem Q8 {m e n f:Int} (h:Can m e) (g:Can n f) (heq:dv m e=dv n f) (h0:m≠0) (hle:e≤f):m=n∧e=f:=by
 obtain ⟨k,hk⟩:∃ k:Nat,f=e+k:=⟨(f-e).toNat,by omega⟩
 subst hk
 rw [← qh] at heq
 have h1:=JQ heq
 rcases Nat.eq_zero_or_pos k with rfl | hk0
 · exact ⟨by simpa using h1,by omega⟩
 · have:=pow_even (k:=k) (by omega) n
   rcases h with ⟨h2,_⟩ | h2<;>omega
theorem IG {m e n f:Int} (h:Can m e) (g:Can n f) (heq:dv m e=dv n f):m=n∧e=f:=by
 by_cases h0:m=0
 · subst h0
   rw [oN] at heq
   have g0:=vT.1 heq.symm
   subst g0
   refine ⟨rfl,?_⟩
   rcases h with ⟨_,h⟩ | h<;>rcases g with ⟨_,g⟩ | g<;>omega
 · have g0:n≠0:=fun e2=>by subst e2;rw [oN] at heq;exact h0 (vT.1 heq)
   rcases Int.le_total e f with hl | hl
   · exact Q8 h g heq h0 hl
   · have:=Q8 g h heq.symm g0 hl
     exact ⟨this.1.symm,this.2.symm⟩
theorem KI (m n e:Int):dv (m+n) e=dv m e+dv n e:=by unfold dv;rw [Rat.intCast_add];grind
theorem PO (m e:Int):dv (-m) e = -dv m e:=by unfold dv;rw [Rat.intCast_neg];grind
theorem PR (m n e f:Int):dv (m*n) (e+f)=dv m e*dv n f:=by unfold dv;rw [Rat.intCast_mul,pE];grind
theorem UG (m e:Int):dv m (e-1)=dv m e/2:=by
 have:dv m e=dv m (e-1)*2:=by
  unfold dv
  rw [show e=(e-1)+1 by omega,pE,Rat.zpow_one,show e-1+1-1=e-1 by omega]
  grind
 rw [this];grind
theorem Ij {m n e:Int}:dv m e<dv n e↔m<n:=by
 unfold dv
 rw [Rat.mul_lt_mul_right (yF e),Rat.intCast_lt_intCast]
theorem Q9 {v:Rat} {n:Int} (h:(n:Rat)≤v) (h2:v<(n:Rat)+1):v.floor=n:=by
 have h3:((v.floor:Int):Rat)≤v:=Rat.floor_le v
 have h4:=Rat.lt_floor_add_one v
 have a:n<v.floor+1:=Rat.intCast_lt_intCast.1 (by grind)
 have b:v.floor<n+1:=Rat.intCast_lt_intCast.1 (by rw [Rat.intCast_add];grind)
 omega
theorem rU (v:Rat):((v.floor:Int):Rat)≤v:=Rat.floor_le v
theorem uM (v:Rat):v<((v.floor:Int):Rat)+1:=by
 have:=Rat.lt_floor_add_one v
 rw [Rat.intCast_add] at this
 exact this
theorem MH {v:Rat} {n:Int}:n≤v.floor↔(n:Rat)≤v:=by
 constructor
 · intro h
   have:=Rat.intCast_le_intCast.2 h
   have:=rU v
   grind
 · intro h
   have h4:=uM v
   have a:n<v.floor+1:=Rat.intCast_lt_intCast.1 (by rw [Rat.intCast_add];grind)
   omega
theorem FB (n:Int):((n:Rat)).floor=n:=Q9 Rat.le_refl (by grind)
def cl (v:Rat):Int := -(-v).floor
theorem Me (v:Rat):v≤((cl v:Int):Rat):=by
 have:=rU (-v)
 unfold cl
 rw [Rat.intCast_neg]
 grind
theorem VR {v:Rat} {n:Int}:cl v≤n↔v≤(n:Rat):=by
 unfold cl
 have:=MH (v := -v) (n := -n)
 rw [Rat.intCast_neg] at this
 constructor
 · intro h
   have:=this.1 (by omega)
   grind
 · intro h
   have:=this.2 (by grind)
   omega
theorem Be (n:Int):cl (n:Rat)=n:=by
 unfold cl
 rw [← Rat.intCast_neg,FB]
 omega
theorem LZ {v:Rat} (h:((v.floor:Int):Rat)≠v):cl v=v.floor+1:=by
 have h1:=rU v
 have h2:=uM v
 have h3:v.floor+1≤cl v:=by
  have:=Me v
  have:v.floor<cl v:=Rat.intCast_lt_intCast.1 (by grind)
  omega
 have h4:cl v≤v.floor+1:=VR.2 (by rw [Rat.intCast_add];grind)
 omega
def jT (d:Nat) (v:Rat):Int :=
 if d=0 then v.floor else if d=1 then cl v
 else if d=2 then (if v<0 then cl v else v.floor)
 else if d=3 then (if v<0 then v.floor else cl v)
 else if v-v.floor<1/2 then v.floor else if 1/2<v-v.floor then cl v
 else if v.floor%2=0 then v.floor else cl v
theorem yA (d:Nat) (v:Rat):jT d v=v.floor∨jT d v=cl v:=by
 unfold jT
 repeat' split
 all_goals first | exact .inl rfl | exact .inr rfl
theorem UH (d:Nat) (n:Int):jT d (n:Rat)=n:=by
 rcases yA d n with h | h
 · rw [h,FB]
 · rw [h,Be]
theorem XO {d:Nat} (hd:d<5) (v:Rat) (b:Bool)
  (h0:d=0→b=false) (h1:d=1→(b=true↔(v.floor:Rat)<v)) (h2:d=2→(b=true↔(v.floor:Rat)<v∧v.floor<0))
  (h3:d=3→(b=true↔(v.floor:Rat)<v∧¬ v.floor<0)) (h4:d=4→(b=true↔1<2*(v-v.floor)∨1=2*(v-v.floor)∧v.floor%2=1)) :
  jT d v=if b then v.floor+1 else v.floor:=by
 have f1:=rU v
 have f2:=uM v
 have hc:((v.floor:Int):Rat)<v→cl v=v.floor+1:=fun h=>LZ (by grind)
 have he:¬ ((v.floor:Int):Rat)<v→cl v=v.floor:=fun h=>by
  have e:v=((v.floor:Int):Rat):=by grind
  generalize v.floor=n at *
  subst e
  exact Be n
 have hneg:v.floor<0↔v<0:=by
  have:=MH (v:=v) (n:=0)
  have e0:((0:Int):Rat)=0:=rfl
  rw [e0] at this
  constructor
  · intro h
    exact Rat.not_le.1 fun h9=>by have:=this.2 h9;omega
  · intro h
    have:¬ 0≤v.floor:=fun h9=>by have:=this.1 h9;grind
    omega
 have hcases:d=0∨d=1∨d=2∨d=3∨d=4:=by omega
 have hm:v.floor%2=0∨v.floor%2=1:=by omega
 unfold jT
 generalize v.floor=n at *
 generalize cl v=c at *
 rcases hcases with rfl | rfl | rfl | rfl | rfl
 · rw [h0 rfl];rfl
 · have:=h1 rfl
   cases b<;>simp at * <;> grind
 · have:=h2 rfl
   cases b<;>simp at * <;> grind
 · have:=h3 rfl
   cases b<;>simp at * <;> grind
 · have:=h4 rfl
   cases b<;>simp at * <;> grind
theorem iU {n d:Int} (hd:0<d):((n:Rat)/(d:Rat)).floor=n/d:=by
 have hd':(0:Rat)<(d:Rat):=by have:=Rat.intCast_lt_intCast.2 hd;exact this
 have h1:n/d*d+n%d=n:=Int.ediv_mul_add_emod n d
 have h2:=Int.emod_nonneg n (show d≠0 by omega)
 have h3:=Int.emod_lt_of_pos n hd
 refine Q9 ?_ ?_
 · rw [← Rat.not_lt,Rat.div_lt_iff hd',Rat.not_lt,← Rat.intCast_mul]
   exact Rat.intCast_le_intCast.2 (by omega)
 · rw [Rat.div_lt_iff hd']
   have e:((n/d:Int):Rat)+1=((n/d+1:Int):Rat):=by rw [Rat.intCast_add];rfl
   rw [e,← Rat.intCast_mul]
   exact Rat.intCast_lt_intCast.2 (by rw [Int.add_mul];omega)
theorem II {n d:Int} (hd:0<d):(n:Rat)/(d:Rat)-((n/d:Int):Rat)=((n%d:Int):Rat)/(d:Rat):=by
 have hd':(0:Rat)<(d:Rat):=by have:=Rat.intCast_lt_intCast.2 hd;exact this
 have h1:((n/d:Int):Rat)*d+((n%d:Int):Rat)=(n:Rat):=by
  rw [← Rat.intCast_mul,← Rat.intCast_add,Int.ediv_mul_add_emod n d]
 grind
theorem oV:∀ (k n:Nat),n∣2^k→∃ j,j≤k∧n=2^j
 | 0,n,h=>⟨0,Nat.le_refl _,by simpa using h⟩
 | k + 1,n,h=>by
  obtain ⟨c,hc⟩:=h
  rcases Nat.mod_two_eq_zero_or_one n with h2 | h2
  · obtain ⟨m,rfl⟩:∃ m,n=2*m:=⟨n/2,by omega⟩
    rw [Nat.pow_succ] at hc
    have h3:2^k=m*c:=by
     have:2*2^k=2*(m*c):=by rw [← Nat.mul_assoc,← hc,Nat.mul_comm]
     omega
    obtain ⟨j,hj,e⟩:=oV k m ⟨c,h3⟩
    exact ⟨j+1,by omega,by rw [e,Nat.pow_succ,Nat.mul_comm]⟩
  · have hc2:c%2=0:=by
     rcases Nat.mod_two_eq_zero_or_one c with h3 | h3
     · exact h3
     · have:(n*c)%2=1:=by rw [Nat.mul_mod,h2,h3]
       rw [← hc,Nat.pow_succ] at this
       omega
    obtain ⟨b,rfl⟩:∃ b,c=2*b:=⟨c/2,by omega⟩
    have h3:2^k=n*b:=by
     rw [Nat.pow_succ] at hc
     have:2*2^k=2*(n*b):=by rw [Nat.mul_comm 2,hc,Nat.mul_left_comm]
     omega
    obtain ⟨j,hj,e⟩:=oV k n ⟨b,h3⟩
    exact ⟨j,by omega,e⟩
theorem CE (k:Nat):(2:Rat)^(-(k:Int))=((2^k:Int):Rat)⁻¹:=by
 rw [Rat.zpow_neg,Rat.zpow_natCast,← tq,Rat.zpow_natCast]
theorem vE (m:Int) (k:Nat):dv m (-(k:Int))=mkRat m (2^k):=by
 unfold dv
 rw [CE,Rat.mkRat_eq_div,Rat.div_def]
 congr 2
theorem XP (m e:Int):∃ j:Nat,(dv m e).den=2^j∧(e<0→(j:Int) ≤ -e)∧(0≤e→j=0):=by
 rcases (show 0≤e∨e<0 by omega) with h | h
 · obtain ⟨k,rfl⟩:=Int.eq_ofNat_of_zero_le h
   refine ⟨0,?_,by omega,fun _=>rfl⟩
   have:dv m (k:Int)=((m*2^k:Int):Rat):=by unfold dv;rw [tq,← Rat.intCast_mul]
   rw [this];rfl
 · obtain ⟨k,hk⟩:∃ k:Nat,e = -(k:Int):=⟨(-e).toNat,by omega⟩
   subst hk
   rw [vE,Rat.den_mkRat,if_neg (Nat.pos_iff_ne_zero.1 (Nat.two_pow_pos k))]
   obtain ⟨j,hj,e⟩:=oV k (2^k/(2^k).gcd m.natAbs) (Nat.div_dvd_of_dvd (Nat.gcd_dvd_left _ _))
   exact ⟨j,e,by omega,by omega⟩
theorem UI {m:Int} (h:m%2=1) (k:Nat):(2^k).gcd m.natAbs=1:=by
 have h1:Nat.gcd (2^k) m.natAbs∣2^k:=Nat.gcd_dvd_left _ _
 obtain ⟨j,_,e⟩:=oV k _ h1
 rcases Nat.eq_zero_or_pos j with rfl | hj
 · exact e
 · exfalso
   have h2:2∣Nat.gcd (2^k) m.natAbs:=by rw [e];exact ⟨2^(j-1),by rw [← Nat.pow_succ',Nat.succ_eq_add_one,Nat.sub_add_cancel hj]⟩
   have h3:2∣m.natAbs:=Nat.dvd_trans h2 (Nat.gcd_dvd_right _ _)
   omega
theorem XQ {m:Int} (h:m%2=1) (k:Nat):(dv m (-(k:Int))).num=m∧(dv m (-(k:Int))).den=2^k:=by
 rw [vE,Rat.num_mkRat,Rat.den_mkRat,if_neg (Nat.pos_iff_ne_zero.1 (Nat.two_pow_pos k)),if_neg (Nat.pos_iff_ne_zero.1 (Nat.two_pow_pos k)),UI h]
 simp
def cut (d:Nat) (v:Rat) (n:Int):Rat:=dv (jT d (v*2^n)) (-n)
theorem sN (d:Nat) (v:Rat) (n:Int):cut d v n=((jT d (v*2^n):Int):Rat)*2^(-n):=rfl
theorem VS (w:Rat) {K:Rat} (hK:0<K) (hi:∃ k:Int,K=k):((w.floor:Rat)/K).floor=(w/K).floor:=by
 obtain ⟨k,rfl⟩:=hi
 refine Q9 ?_ ?_
 · rw [← Rat.not_lt,Rat.div_lt_iff hK,Rat.not_lt,← Rat.intCast_mul]
   refine Rat.intCast_le_intCast.2 (MH.2 ?_)
   have:=rU (w/(k:Rat))
   rw [← Rat.not_lt,Rat.div_lt_iff hK,Rat.not_lt,← Rat.intCast_mul] at this
   exact this
 · rw [Rat.div_lt_iff hK]
   have h1:=uM (w/(k:Rat))
   rw [Rat.div_lt_iff hK] at h1
   have:=rU w
   grind
theorem aac (w:Rat) {K:Rat} (hK:0<K) (hi:∃ k:Int,K=k):cl ((cl w:Rat)/K)=cl (w/K):=by
 unfold cl
 have h:=VS (-w) hK hi
 rw [show -((((-(-w).floor:Int)):Rat)/K)=(((-w).floor:Int):Rat)/K by rw [Rat.intCast_neg];grind,h]
 congr 2
 grind
theorem xE {w K:Rat} (hK:0<K):w/K<0↔w<0:=by rw [Rat.div_lt_iff hK,Rat.zero_mul]
theorem UJ {d:Nat} (hd:d<4) (w:Rat) {K:Rat} (hK:0<K) (hi:∃ k:Int,K=k):jT d ((jT d w:Rat)/K)=jT d (w/K):=by
 have hf:=VS w hK hi
 have hc:=aac w hK hi
 have h0:=xE (w:=w) hK
 have z0:((0:Int):Rat)=0:=rfl
 have hcases:d=0∨d=1∨d=2∨d=3:=by omega
 rcases hcases with rfl | rfl | rfl | rfl
 · exact hf
 · exact hc
 · unfold jT
   simp only [if_neg (show ¬ (2:Nat)=0 by decide),if_neg (show ¬ (2:Nat)=1 by decide),if_pos]
   by_cases hw:w<0
   · rw [if_pos hw,if_pos (h0.2 hw)]
     by_cases hz:cl w<0
     · rw [if_pos ((xE hK).2 (by rw [← z0];exact Rat.intCast_lt_intCast.2 hz)),hc]
     · have:cl w=0:=by
        have:cl w≤0:=VR.2 (by rw [z0];grind)
        omega
       rw [this] at hc ⊢
       have e9:((0:Int):Rat)/K=0:=by rw [z0];grind
       rw [e9] at hc ⊢
       rw [if_neg (by decide),← hc]
       exact (FB 0).trans (Be 0).symm
   · rw [if_neg hw,if_neg (fun h=>hw (h0.1 h))]
     have:0≤w.floor:=MH.2 (by rw [z0];grind)
     rw [if_neg (fun h=>by have h9:=(xE hK).1 h;rw [← z0] at h9;have:=Rat.intCast_lt_intCast.1 h9;omega),hf]
 · unfold jT
   simp only [if_neg (show ¬ (3:Nat)=0 by decide),if_neg (show ¬ (3:Nat)=1 by decide),if_neg (show ¬ (3:Nat)=2 by decide),if_pos]
   by_cases hw:w<0
   · rw [if_pos hw,if_pos (h0.2 hw)]
     have:w.floor<0:=by
      have:=rU w
      exact Rat.intCast_lt_intCast.1 (by rw [z0];grind)
     rw [if_pos ((xE hK).2 (by rw [← z0];exact Rat.intCast_lt_intCast.2 this)),hf]
   · rw [if_neg hw,if_neg (fun h=>hw (h0.1 h))]
     have:0≤cl w:=by
      have:=Me w
      have h9:((0:Int):Rat)≤cl w:=by rw [z0];grind
      exact Rat.intCast_le_intCast.1 h9
     rw [if_neg (fun h=>by have h9:=(xE hK).1 h;rw [← z0] at h9;have:=Rat.intCast_lt_intCast.1 h9;omega),hc]
theorem twice {d:Nat} (hd:d<4) (v:Rat) (n:Int) (k:Nat):cut d (cut d v (n+k)) n=cut d v n:=by
 have e:cut d v (n+k)*2^n=((jT d (v*2^(n+k)):Int):Rat)/((2^k:Int):Rat):=by
  rw [sN,Rat.mul_assoc,← pE,show -(n+k)+n = -(k:Int) by omega,CE,Rat.div_def]
 have e2:v*2^n=v*2^(n+k)/((2^k:Int):Rat):=by
  rw [Rat.div_def,← CE,Rat.mul_assoc,← pE,show n+k + -(k:Int)=n by omega]
 have hK:(0:Rat)<((2^k:Int):Rat):=by rw [← tq];exact yF _
 unfold cut at *
 rw [e,UJ hd _ hK ⟨_,rfl⟩,← e2]
theorem UK (d:Nat) (m e n:Int) (h:0≤e+n):cut d (dv m e) n=dv m e:=by
 obtain ⟨k,hk⟩:=Int.eq_ofNat_of_zero_le h
 have e1:dv m e*2^n=((m*2^k:Int):Rat):=by
  unfold dv
  rw [Rat.mul_assoc,← pE,hk,Rat.intCast_mul]
  congr 1
  exact tq k
 rw [cut,e1,UH,qh]
 congr 1
 omega
theorem DJ (m:Int) (k:Nat):(dv m (-(k:Int))).floor=m/2^k:=by
 have h:(0:Int)<2^k:=Int.pow_pos (by decide)
 rw [← iU h]
 congr 1
 unfold dv
 rw [CE,Rat.div_def]
theorem CF (m e n:Int):dv m e*2^n=dv m (e+n):=by unfold dv;rw [Rat.mul_assoc,← pE]
theorem Ra (m:Int) (k:Nat):dv m (k:Int)=((m*2^k:Int):Rat):=by unfold dv;rw [tq,← Rat.intCast_mul]
def NM (m s:Int):Int:=if 0≤s then m*2^s.toNat else m/2^(-s).toNat
theorem scaled (m e n:Int):(dv m e*2^n).floor=NM m (e+n):=by
 rw [CF]
 unfold NM
 split
 · rename_i h
   obtain ⟨k,hk⟩:=Int.eq_ofNat_of_zero_le h
   rw [hk,Ra,FB,Int.toNat_natCast]
 · rename_i h
   obtain ⟨k,hk⟩:∃ k:Nat,e+n = -(k:Int):=⟨(-(e+n)).toNat,by omega⟩
   rw [hk,DJ,Int.neg_neg,Int.toNat_natCast]
theorem Rb {m e f:Int} (h:f≤e):dv (NM m (e-f)) f=dv m e:=by
 unfold NM
 rw [if_pos (by omega),qh]
 congr 1
 omega
theorem Rc {m e n f g:Int} (h1:g≤e) (h2:g≤f):dv (NM m (e-g)+NM n (f-g)) g=dv m e+dv n f:=by
 rw [KI,Rb h1,Rb h2]
theorem qm (q:Rat) (n:Int):((NM q.num (max n 0):Int):Rat)/((NM (q.den:Int) (max (-n) 0):Int):Rat)=q*2^n:=by
 have hq:(q.num:Rat)/((q.den:Int):Rat)=q:=by rw [← Rat.divInt_eq_div];exact Rat.num_divInt_den q
 have hd:((q.den:Int):Rat)≠0:=fun h=>q.den_nz (by have:=Rat.intCast_inj.1 (h.trans (show (0:Rat)=((0:Int):Rat) from rfl));omega)
 unfold NM
 rcases Int.le_total 0 n with h | h
 · obtain ⟨k,rfl⟩:=Int.eq_ofNat_of_zero_le h
   rw [show max (k:Int) 0=k by omega,show max (-(k:Int)) 0=0 by omega,if_pos h,if_pos (by decide),Int.toNat_natCast]
   simp only [Int.toNat_zero,Int.pow_zero,Int.mul_one]
   rw [Rat.intCast_mul,← tq]
   conv=>rhs;rw [← hq]
   rw [Rat.div_def,Rat.div_def]
   grind
 · obtain ⟨k,hk⟩:∃ k:Nat,n = -(k:Int):=⟨(-n).toNat,by omega⟩
   subst hk
   rw [show max (-(k:Int)) 0=0 by omega,show max (- -(k:Int)) 0=k by omega,if_pos (by decide),if_pos (by omega),Int.toNat_natCast]
   simp only [Int.toNat_zero,Int.pow_zero,Int.mul_one]
   have hp:=D8 (k:Int)
   rw [Rat.intCast_mul,← tq,Rat.div_def,Rat.inv_mul_rev,Rat.zpow_neg,Rat.zpow_natCast]
   conv=>rhs;rw [← hq]
   rw [Rat.div_def]
   grind
theorem wV {m s:Int} (hm:0<m) (hs:0≤s):0<NM m s:=by
 unfold NM
 rw [if_pos hs]
 exact Int.mul_pos hm (Int.pow_pos (by decide))
theorem lV (m e n:Int) (h:e+n<0):((m:Int):Rat)/((NM 1 (-e-n):Int):Rat)=dv m e*2^n:=by
 obtain ⟨k,hk⟩:∃ k:Nat,e+n = -(k:Int):=⟨(-(e+n)).toNat,by omega⟩
 rw [CF,hk]
 unfold NM dv
 rw [show -e-n=(k:Int) by omega,if_pos (by omega),Int.toNat_natCast,Int.one_mul,CE,Rat.div_def]
theorem Re {n d:Int} (hd:0<d):0<n%d↔((((n:Rat)/(d:Rat)).floor:Int):Rat)<(n:Rat)/(d:Rat):=by
 have hd':(0:Rat)<(d:Rat):=by have:=Rat.intCast_lt_intCast.2 hd;exact this
 have h:=II (n:=n) hd
 rw [iU hd]
 have h2:(0:Rat)<((n%d:Int):Rat)/(d:Rat)↔0<n%d:=by
  rw [Rat.lt_div_iff hd',Rat.zero_mul]
  exact Rat.intCast_lt_intCast (a:=0)
 rw [← h2]
 constructor<;>intro k<;>grind
theorem NN {n d:Int} (hd:0<d):(d<2*(n%d)↔1<2*((n:Rat)/(d:Rat)-(((n:Rat)/(d:Rat)).floor:Int)))∧(d=2*(n%d)↔1=2*((n:Rat)/(d:Rat)-(((n:Rat)/(d:Rat)).floor:Int))):=by
 have hd':(0:Rat)<(d:Rat):=by have:=Rat.intCast_lt_intCast.2 hd;exact this
 rw [iU hd,II hd]
 have e2:((2:Int):Rat)=2:=rfl
 have e:2*(((n%d:Int):Rat)/(d:Rat))=((2*(n%d):Int):Rat)/(d:Rat):=by rw [Rat.intCast_mul,e2,Rat.div_def,Rat.div_def];grind
 rw [e]
 constructor
 · rw [Rat.lt_div_iff hd',Rat.one_mul]
   exact Rat.intCast_lt_intCast.symm
 · constructor
   · intro h
     rw [← h,Rat.div_def,Rat.mul_inv_cancel _ (Rat.ne_of_gt hd')]
   · intro h
     refine Rat.intCast_inj.1 ?_
     have this:1*(d:Rat)=((2*(n%d):Int):Rat)/(d:Rat)*(d:Rat):=by rw [← h]
     rw [Rat.one_mul,Rat.div_mul_cancel (Rat.ne_of_gt hd')] at this
     exact this
end Go.Proofs.YtdpmbgomcjnohaaGreatDoor.Dy
