/- Small numbers reckoned, powers and shifts, in the walk by plans. -/
import Derived.Test.YtfhcmggpojhegaaGreatDoorBas
import Derived.Test.YtfhcmggpojhegaaGreatDoorBar
import Derived.Test.YtfhcmggpojhegaaGreatDoorBat
import Derived.Test.YtfhcmggpojhegaaGreatDoorBak
import Derived.Test.YtfhcmggpojhegaaGreatDoorBau
import Derived.Test.YtfhcmggpojhegaaGreatDoorBbb
import Derived.Test.YtfhcmggpojhegaaGreatDoorBbe
import Derived.Test.YtfhcmggpojhegaaGreatDoorBbf
import Derived.Test.YtfhcmggpojhegaaGreatDoorBah
import Derived.Test.YtfhcmggpojhegaaGreatDoorBbc
import Derived.Test.YtfhcmggpojhegaaGreatDoorBan
import Derived.Test.YtfhcmggpojhegaaGreatDoorBaq
import Derived.Test.YtfhcmggpojhegaaGreatDoorBaf
import Derived.Deep.RegionHeld3
import Derived.Deep.Cut

namespace Go.Proofs.YtfhcmggpojhegaaGreatDoor
open Go.RowKit
set_option linter.unusedVariables false
set_option maxHeartbeats 400000
theorem adG {n M:Nat} (h:n<32*M):(limbs ((2:Int).natAbs^n)).length≤M:=by
 refine jO (show _<4294967296^M from ?_)
 show 2^n<(2^32)^M
 rw [← Nat.pow_mul]
 exact Nat.pow_lt_pow_right (by decide) h
theorem Sz.two {n M:Nat} (h:n<32*M):Sz ((2:Int)^n) M:=by
 show (limbs ((2:Int)^n).natAbs).length≤M
 rw [Int.natAbs_pow]
 exact adG h
def shl (a s:Int):Int:=if 0≤s then a*2^s.toNat else a/2^(-s).toNat
theorem Sz.shl {a s:Int} {K M:Nat} (h:Sz a K) (hs:s<32*29) (hm:K+29≤M):Sz (shl a s) M:=by
 unfold Go.Proofs.YtfhcmggpojhegaaGreatDoor.shl
 split
 · exact h.mul (Sz.two (M:=29) (by omega)) hm
 · exact h.div.le (by omega)
theorem Sz.small {z:Int} {K:Nat} (h:z.natAbs<4294967296∧1≤K):Sz z K:=Sz.lit h.1 h.2
end Go.Proofs.YtfhcmggpojhegaaGreatDoor
/- What T1's laws share: the head's calls, sizes, inverses, cofactors, digit sums. -/
namespace Go.Proofs.YtfhcmggpojhegaaGreatDoor
open Go.RowKit
set_option linter.all false
set_option maxRecDepth 100000
set_option maxHeartbeats 8000000
theorem U.xs {w w':World} {N:Nat} {T:TypeId} {cs:List Value} {v:Value} {xs:List Nat} (h:U w v xs) (k:Pl.Xs [N] w w') (hN:Pl.Cb w N T cs) (hc:∀ c∈cs,∀ z,c≠.int .u32 z):U w' v xs:=by
 obtain ⟨A,c,rfl,hl,hx,hr⟩:=h
 refine ⟨A,c,rfl,hl,hx,fun h0=>?_⟩
 obtain ⟨ad,hA,hb,hcell⟩:=hr h0
 have hne:ad.block≠N:=fun e=>by
  have h1:=hcell 0 h0
  unfold World.cell? at h1
  rw [aJ,e,show w.heap[N]?=_ from hN] at h1
  simp at h1
  exact hc _ (List.mem_of_getElem? h1.2) _ rfl
 refine ⟨ad,hA,Nat.lt_of_lt_of_le hb k.size,fun j hj=>?_⟩
 rw [World.cell?_of_block (w:=w) (k.block _ (by rw [aJ];exact hb) (by rw [aJ];simpa using hne))]
 exact hcell j hj
theorem Un.xs {w w':World} {N:Nat} {T:TypeId} {cs:List Value} {v:Value} {n:Nat} (h:Un w v n) (k:Pl.Xs [N] w w') (hN:Pl.Cb w N T cs) (hc:∀ c∈cs,∀ z,c≠.int .u32 z):Un w' v n:=U.xs h k hN hc
theorem Zn.xs {w w':World} {N:Nat} {T:TypeId} {cs:List Value} {v:Value} {z:Int} (h:Zn w v z) (k:Pl.Xs [N] w w') (hN:Pl.Cb w N T cs) (hc:∀ c∈cs,∀ z,c≠.int .u32 z):Zn w' v z:=by
 obtain ⟨A,c,e,hu⟩:=h
 exact ⟨A,c,e,U.xs hu k hN hc⟩
theorem Sn.gcd {a b K:Nat} (ha:Sn a K) (hb:Sn b K):Sn (Nat.gcd a b) K:=by
 rcases Nat.eq_zero_or_pos a with rfl | h
 · rw [Nat.gcd_zero_left];exact hb
 · exact ha.down (Nat.gcd_le_left _ h)
def inv (a m:Nat):Nat:=((cf (quo (a%m) m) 1 0).1%(m:Int)).natAbs
/-! The head. -/
theorem s10:qR (⟨#[49,48,48,48,48,48,48,48,48,55]⟩:ByteArray)=[1,0,0,0,0,0,0,0,0,7]:=by decide +kernel
theorem ads (w:World):Calls Tryz.prog 40 #[.string ⟨#[49,48,48,48,48,48,48,48,48,55]⟩,.int .i64 10] w fun e w'=>∃ u,e = .returned (.tuple #[u,.int .i64 0,.int .i64 0])∧Un w' u 1000000007∧Ext w w' :=
 JG w ⟨#[49,48,48,48,48,48,48,48,48,55]⟩ 10 1000000007 (by decide) (by decide) (by decide) (Nat.le_trans (jO (n:=10^10) (k:=2) (by decide)) (by decide)) (by decide) (by rw [s10];decide) (by rw [s10];decide)
theorem s19:gD (dt 10 1000000014000000049)=⟨#[49,48,48,48,48,48,48,48,49,52,48,48,48,48,48,48,48,52,57]⟩ :=
 ahf 10 1000000014000000049 [1,0,0,0,0,0,0,0,1,4,0,0,0,0,0,0,0,4,9] (by decide) (by decide) (by decide) (by decide) (by decide) _ (by decide +kernel)
theorem adt (w:World) (va:Value) (h:Un w va 1000000014000000049):Calls Tryz.prog 41 #[va,.int .i64 10] w fun e w'=>e = .returned (.tuple #[.string ⟨#[49,48,48,48,48,48,48,48,49,52,48,48,48,48,48,48,48,52,57]⟩,.int .i64 0])∧Ext w w':=by
 refine (FL w va 1000000014000000049 10 h (Nat.le_trans (jO (k:=2) (by decide)) (by decide)) (by decide) (by decide)).mono ?_
 rw [s19]
 exact fun e w' h=>h
theorem Yk (w:World):Calls Tryz.prog 45 #[.string ⟨#[45,49,48,48,48,48,48,48,48,49,52,48,48,48,48,48,48,48,52,57]⟩] w fun e w'=>∃ u,e = .returned (.tuple #[u,.int .i64 0,.int .i64 0])∧Zn w' u (-1000000014000000049)∧Ext w w':=by
 have ha:Pj ⟨#[45,49,48,48,48,48,48,48,48,49,52,48,48,48,48,48,48,48,52,57]⟩=1:=by decide +kernel
 have hx:(⟨#[45,49,48,48,48,48,48,48,48,49,52,48,48,48,48,48,48,48,52,57]⟩:ByteArray).extract 1 (⟨#[45,49,48,48,48,48,48,48,48,49,52,48,48,48,48,48,48,48,52,57]⟩:ByteArray).size=⟨#[49,48,48,48,48,48,48,48,49,52,48,48,48,48,48,48,48,52,57]⟩:=by decide +kernel
 have hs:qR (⟨#[49,48,48,48,48,48,48,48,49,52,48,48,48,48,48,48,48,52,57]⟩:ByteArray)=[1,0,0,0,0,0,0,0,1,4,0,0,0,0,0,0,0,4,9]:=by decide +kernel
 refine (Yj w _ (by decide) (limbs 1000000014000000049) 0 0 ?_ (by decide) (fun _=>rfl)).mono fun e w' h=>?_
 · rw [ha,hx]
   exact fun w=>(JG w _ 10 1000000014000000049 (by decide) (by decide) (by decide) (Nat.le_trans (jO (n:=10^19) (k:=2) (by decide)) (by decide)) (by decide) (by rw [hs];decide) (by rw [hs];decide)).mono fun e w' ⟨u,he,hu,hE⟩=>⟨u,he,hu,hE⟩
 · obtain ⟨hE,⟨h1,_⟩ | ⟨_,u,he,hz⟩⟩:=h
   · exact absurd rfl h1
   · refine ⟨u,he,?_,hE⟩
     rw [aO,ha] at hz
     exact hz
theorem VA (w:World):Calls Tryz.prog 45 #[.string ⟨#[45,49,48,48,48,48,48,48,48,49,52,48,48,48,48,48,48,48,52,57]⟩] w fun e w'=>∃ A c,e = .returned (.tuple #[.agg #[.bool true,.slice A (limbs 1000000014000000049).length c],.int .i64 0,.int .i64 0])∧Un w' (.slice A (limbs 1000000014000000049).length c) 1000000014000000049∧Ext w w' :=
 (Yk w).mono fun e w' ⟨u,he,⟨A,c,hu,h⟩,hE⟩=>⟨A,c,by rw [he,hu];rfl,h,hE⟩
theorem adu (w:World) (va vb:Value) (a b:Nat) (ha:Un w va a) (hb:Un w vb b) (la:Sn a 24) (lb:Sn b 24) :
 Calls Tryz.prog 44 #[va,vb] w fun e w'=>∃ z,e = .returned z∧U3 w' z (EL (limbs a) (limbs b))∧Ext w w':=P5 w va vb _ _ ha hb (Nat.le_trans la (by decide)) (Nat.le_trans lb (by decide)) (Nat.le_trans (Nat.min_le_left _ _) la) _ rfl
theorem alZ (w:World) (va vb:Value) (n m:Nat) (ha:Un w va n) (hb:Un w vb m) (hn:Sn n 24) (hm:Sn m 24) :
  Calls Tryz.prog 11 #[va,vb] w fun e w'=>∃ u,e = .returned u∧Un w' u (n*m)∧Ext w w':=by
 refine (Nt w va vb _ _ ha hb hn hm).mono ?_
 rw [aO,aO]
 rintro e w' ⟨⟨u,h1,h2⟩,h3⟩
 exact ⟨u,h1,h2,h3⟩
theorem Yl (w:World) (va vb:Value) (n m:Nat) (ha:Un w va n) (hb:Un w vb m) (hn:Sn n 398) (hm:Sn m 398) :
  Calls Tryz.prog 20 #[va,vb] w fun e w'=>∃ u,e = .returned u∧Un w' u (n*m)∧Ext w w':=by
 unfold Sn at hn hm
 refine (DT w va vb _ _ ha hb (by omega) (by omega)).mono ?_
 rw [aO,aO]
 rintro e w' ⟨⟨u,h1,h2⟩,h3⟩
 exact ⟨u,h1,h2,h3⟩
theorem Ym (w:World) (v:Value) (a b:Nat) (h:U3 w v (EL (limbs a) (limbs b))) (la:Sn a 30000) (lb:Sn b 30000) :
  Calls Tryz.prog 43 #[v] w fun e w'=>∃ u,e = .returned u∧Un w' u (a*b)∧Ext w w' :=
 adv w v _ h (TI _ _ (jd a) (jd b) (Nat.le_trans la (by decide))) (Nat.le_trans (FM _ _) (by unfold Sn at la lb;omega)) _ (by rw [Nu,aO,aO])
theorem afz:Rt.kr 1000000014000000049 2=1000000007:=Rt.Ty (by decide) (by decide) (by decide)
theorem adw:1000000014000000049-Rt.kr 1000000014000000049 2*Rt.kr 1000000014000000049 2=0:=by rw [afz]
/-! Whole numbers. -/
/-! Digit sums. -/
def ds (b a:Nat):Nat:=(dt b a).sum
section
variable {P:Program} {L:List Oper} {S:World→Prop} {K:List (Nat × Value)→World→Prop} {kk:Bool} {i m d:Nat} {o:Oper} {x y:Operand} {r:List (Bool × Nat × Nat)} {l:List (Nat × Value)} {w:World}
end
end Go.Proofs.YtfhcmggpojhegaaGreatDoor
/- T1: the head. -/
namespace Go.Proofs.YtfhcmggpojhegaaGreatDoor
open Go.RowKit 
set_option linter.all false
set_option maxRecDepth 100000
set_option maxHeartbeats 8000000
theorem adx:aU 1000000007=30:=by
 have h1:=aT (n:=1000000007) (k:=30) (by decide)
 have h2:=lJ (n:=1000000007) (k:=29) (by decide)
 omega
theorem pF (w:World)  :
  Calls Tryz.prog 8 #[] w fun e w'=>e = .returned (.bool true)∧Pl.Ex w w':=by
 refine Pl.aZ (n:=121) (vs:=[]) Tryz.func8 rfl (by kernel_rfl) (by simp) ?_
 repeat refine Pl.ay ?_
 refine Pl.ak (by kernel_rfl) ?_
 refine Pl.aG trivial rfl ?_
 refine Pl.aj ?_
 repeat refine Pl.ay ?_
 refine Pl.ak (by kernel_rfl) ?_
 refine Pl.az rfl rfl rfl rfl rfl (fun u X=>Pl.enters Tryz.func40 (by kernel_rfl) rfl u X) ?_
 refine Calls.mono (ads _) ?_
 rintro e w1 ⟨v1,rfl,hv1,hE1⟩
 have X0:=Pl.Ex.size hE1
 refine ⟨_,rfl,trivial,?_⟩
 refine Pl.aG trivial rfl ?_
 refine Pl.aj ?_
 repeat refine Pl.ay ?_
 refine Pl.ak (by kernel_rfl) ?_
 refine Pl.aG trivial rfl ?_
 refine Pl.az rfl rfl rfl rfl rfl (fun u X=>Pl.enters Tryz.func11 (by kernel_rfl) rfl u X) ?_
 refine Calls.mono (alZ _ _ _ 1000000007 1000000007 hv1 hv1 (Sn.le (Sn.bits (b:=32) (by decide) (by decide):Sn 1000000007 1) (by decide)) (Sn.le (Sn.bits (b:=32) (by decide) (by decide):Sn 1000000007 1) (by decide))) ?_
 rintro e w2 ⟨v2,rfl,hv2,hE2⟩
 have WY:=Pl.Ex.size hE2
 replace hv2:=Un.as hv2 (show 1000000007*1000000007=1000000014000000049 by decide)
 refine ⟨_,rfl,trivial,?_⟩
 refine Pl.aG trivial rfl ?_
 refine Pl.aj ?_
 repeat refine Pl.ay ?_
 refine Pl.ak (by kernel_rfl) ?_
 refine Pl.aG trivial rfl ?_
 refine Pl.az rfl rfl rfl rfl rfl (fun u X=>Pl.enters Tryz.func41 (by kernel_rfl) rfl u X) ?_
 refine Calls.mono (adt _ _ hv2) ?_
 rintro e w3 ⟨rfl,bJ⟩
 have TD:=Pl.Ex.size bJ
 refine ⟨_,rfl,trivial,?_⟩
 refine Pl.aG trivial rfl ?_
 refine Pl.aj ?_
 repeat refine Pl.ay ?_
 refine Pl.ak (by kernel_rfl) ?_
 refine Pl.aG trivial rfl ?_
 refine Pl.az rfl rfl rfl rfl rfl (fun u X=>Pl.enters Tryz.func19 (by kernel_rfl) rfl u X) ?_
 refine Calls.mono (Ce _ _ _ 1000000014000000049 1000000007 _ _ (Un.below hv2 bJ) (Un.below hv1 (Pl.Ex.trans hE2 bJ)) (Sn.le (Sn.bits (b:=64) (by decide) (by decide):Sn 1000000014000000049 2) (by decide)) (Sn.le (Sn.bits (b:=32) (by decide) (by decide):Sn 1000000007 1) (by decide)) (by omega) rfl rfl) ?_
 rintro e w4 ⟨⟨v3,v4,rfl,hv3,hv4⟩,bX⟩
 have TH:=Pl.Ex.size bX
 replace hv3:=Un.as hv3 (show 1000000014000000049/1000000007=1000000007 by decide)
 replace hv4:=Un.as hv4 (show 1000000014000000049%1000000007=0 by decide)
 refine ⟨_,rfl,trivial,?_⟩
 refine Pl.aG trivial rfl ?_
 refine Pl.aj ?_
 repeat refine Pl.ay ?_
 refine Pl.ak (by kernel_rfl) ?_
 refine Pl.aG trivial rfl ?_
 refine Pl.uR (e := 27) (n:=1) [.int .u32 6] rfl rfl rfl rfl (by kernel_rfl) (fun Y hY=>trivial) ?_
 intro N5 w5 bE awk Yn
 have ady:=Pl.Cb.lt Yn
 have Mw:=Pl.Ex.size bE
 have hl6:=Un.one (x:=6) Yn rfl (by omega)
 refine Pl.az rfl rfl rfl rfl rfl (fun u X=>Pl.enters Tryz.func20 (by kernel_rfl) rfl u X) ?_
 refine Calls.mono (Yl _ _ _ 1000000007 6 (Un.below hv1 (Pl.Ex.trans hE2 (Pl.Ex.trans bJ (Pl.Ex.trans bX bE)))) hl6 (Sn.le (Sn.bits (b:=32) (by decide) (by decide):Sn 1000000007 1) (by decide)) (Sn.le (Sn.of (K:=1) (by omega)) (by decide))) ?_
 rintro e w6 ⟨v7,rfl,hv7,bu⟩
 have Cj:=Pl.Ex.size bu
 replace hv7:=Un.as hv7 (show 1000000007*6=6000000042 by decide)
 refine ⟨_,rfl,trivial,?_⟩
 refine Pl.az rfl rfl rfl rfl rfl (fun u X=>Pl.enters Tryz.func23 (by kernel_rfl) rfl u X) ?_
 refine Calls.mono (adg _ _ _ 1000000014000000049 6000000042 (Un.below hv2 (Pl.Ex.trans bJ (Pl.Ex.trans bX (Pl.Ex.trans bE bu)))) hv7 (Sn.le (Sn.bits (b:=64) (by decide) (by decide):Sn 1000000014000000049 2) (by decide)) (Sn.le (Sn.bits (b:=64) (by decide) (by decide):Sn 6000000042 2) (by decide)) (by decide)) ?_
 rintro e w7 ⟨v8,rfl,DN,cB⟩
 have zS:=Pl.Ex.size cB
 replace DN:=Un.as DN (show Nat.gcd 1000000014000000049 6000000042=1000000007 by decide +kernel)
 refine ⟨_,rfl,trivial,?_⟩
 refine Pl.aG trivial rfl ?_
 refine Pl.aj ?_
 repeat refine Pl.ay ?_
 refine Pl.ak (by kernel_rfl) ?_
 refine Pl.aG trivial rfl ?_
 refine Pl.az rfl rfl rfl rfl rfl (fun u X=>Pl.enters Tryz.func42 (by kernel_rfl) rfl u X) ?_
 refine Calls.mono (Qe 1000000014000000049 _ _ (Un.below hv2 (Pl.Ex.trans bJ (Pl.Ex.trans bX (Pl.Ex.trans bE (Pl.Ex.trans bu cB))))) (Sn.le (Sn.bits (b:=64) (by decide) (by decide):Sn 1000000014000000049 2) (by decide))) ?_
 rintro e w8 ⟨v9,v10,rfl,xk,nP,dL⟩
 have xg:=Pl.Ex.size dL
 replace xk:=Un.as xk afz
 replace nP:=Un.as nP adw
 refine ⟨_,rfl,trivial,?_⟩
 refine Pl.aG trivial rfl ?_
 refine Pl.aj ?_
 repeat refine Pl.ay ?_
 refine Pl.ak (by kernel_rfl) ?_
 refine Pl.aG trivial rfl ?_
 refine Pl.az rfl rfl rfl rfl rfl (fun u X=>Pl.enters Tryz.func44 (by kernel_rfl) rfl u X) ?_
 refine Calls.mono (adu _ _ _ 1000000007 1000000007 (Un.below hv1 (Pl.Ex.trans hE2 (Pl.Ex.trans bJ (Pl.Ex.trans bX (Pl.Ex.trans bE (Pl.Ex.trans bu (Pl.Ex.trans cB dL))))))) (Un.below hv1 (Pl.Ex.trans hE2 (Pl.Ex.trans bJ (Pl.Ex.trans bX (Pl.Ex.trans bE (Pl.Ex.trans bu (Pl.Ex.trans cB dL))))))) (Sn.le (Sn.bits (b:=32) (by decide) (by decide):Sn 1000000007 1) (by decide)) (Sn.le (Sn.bits (b:=32) (by decide) (by decide):Sn 1000000007 1) (by decide))) ?_
 rintro e w9 ⟨v11,rfl,rO,fu⟩
 have PV:=Pl.Ex.size fu
 refine ⟨_,rfl,trivial,?_⟩
 refine Pl.az rfl rfl rfl rfl rfl (fun u X=>Pl.enters Tryz.func43 (by kernel_rfl) rfl u X) ?_
 refine Calls.mono (Ym _ _ 1000000007 1000000007 rO (Sn.le (Sn.bits (b:=32) (by decide) (by decide):Sn 1000000007 1) (by decide)) (Sn.le (Sn.bits (b:=32) (by decide) (by decide):Sn 1000000007 1) (by decide))) ?_
 rintro e uY ⟨v12,rfl,pX,cZ⟩
 have yH:=Pl.Ex.size cZ
 replace pX:=Un.as pX (show 1000000007*1000000007=1000000014000000049 by decide)
 refine ⟨_,rfl,trivial,?_⟩
 refine Pl.aG trivial rfl ?_
 refine Pl.aj ?_
 repeat refine Pl.ay ?_
 refine Pl.ak (by kernel_rfl) ?_
 refine Pl.aG trivial rfl ?_
 refine Pl.TJ (.string ⟨#[45,49,48,48,48,48,48,48,48,49,52,48,48,48,48,48,48,48,52,57]⟩) trivial rfl rfl rfl rfl (fun X=>by kernel_rfl) ?_
 refine Pl.az rfl rfl rfl rfl rfl (fun u X=>Pl.enters Tryz.func45 (by kernel_rfl) rfl u X) ?_
 refine Calls.mono (VA _) ?_
 rintro e BU ⟨Pk,c14,rfl,Pm,dw⟩
 have xR:=Pl.Ex.size dw
 refine ⟨_,rfl,trivial,?_⟩
 refine Pl.aG trivial rfl ?_
 refine Pl.fZ (z:=.agg #[.bool false,.slice none 0 0]) (by kernel_rfl) rfl rfl rfl rfl (fun Y hY=>trivial) ?_
 intro zZ w12 fV vG dD
 have uS:=Pl.Cb.lt dD
 have Fw:=Pl.Ex.size fV
 replace dD:Pl.Cb w12 zZ 48 [.bool false,.slice none 0 0]:=dD
 refine Pl.eP (new:=[.bool true,.slice Pk (limbs 1000000014000000049).length c14]) dD (by kernel_rfl) rfl (by simp [Value.oneCell']) rfl rfl rfl rfl rfl rfl (fun Y hY=>trivial) ?_
 intro IZ Ad fK
 have dh:=Pl.Ex.xs fV Ad (by omega)
 have Fx:=Pl.Xs.size Ad
 refine Pl.aG trivial rfl ?_
 refine Pl.aj ?_
 repeat refine Pl.ay ?_
 refine Pl.ak (by kernel_rfl) ?_
 refine Pl.aG trivial rfl ?_
 refine Pl.bV (v:=.bool true) (fun X=>Pl.gL (Pl.e_t (by omega)) X) trivial rfl rfl rfl rfl rfl rfl ?_
 refine Pl.aG trivial rfl ?_
 refine Pl.bV (v:=.bool true) (fun X=>Pl.gL (Pl.e_t (by omega)) X) trivial rfl rfl rfl rfl rfl rfl ?_
 refine Pl.aG trivial rfl ?_
 refine Pl.TJ (.bool true) trivial rfl rfl rfl rfl (fun X=>by kernel_rfl) ?_
 refine Pl.aG trivial rfl ?_
 refine Pl.bV (v:=.bool true) (fun X=>Pl.gL (Pl.e_t (by omega)) X) trivial rfl rfl rfl rfl rfl rfl ?_
 refine Pl.aG trivial rfl ?_
 refine Pl.az rfl rfl rfl rfl rfl (fun u X=>Pl.enters Tryz.func15 (by kernel_rfl) rfl u X) ?_
 refine Calls.mono (mK _ _ _ 1000000007 1000000007 (Un.below hv3 (Pl.Ex.trans bE (Pl.Ex.trans bu (Pl.Ex.trans cB (Pl.Ex.trans dL (Pl.Ex.trans fu (Pl.Ex.trans cZ (Pl.Ex.trans dw dh)))))))) (Un.below hv1 (Pl.Ex.trans hE2 (Pl.Ex.trans bJ (Pl.Ex.trans bX (Pl.Ex.trans bE (Pl.Ex.trans bu (Pl.Ex.trans cB (Pl.Ex.trans dL (Pl.Ex.trans fu (Pl.Ex.trans cZ (Pl.Ex.trans dw dh))))))))))) true (decide_eq_true rfl)) ?_
 rintro e Qf ⟨rfl,bZ⟩
 have FK:=Pl.Ex.size bZ
 refine ⟨_,rfl,trivial,?_⟩
 refine Pl.aG trivial rfl ?_
 obtain ⟨A17,c18,rfl⟩:=oZ (Un.below hv4 (Pl.Ex.trans bE (Pl.Ex.trans bu (Pl.Ex.trans cB (Pl.Ex.trans dL (Pl.Ex.trans fu (Pl.Ex.trans cZ (Pl.Ex.trans dw (Pl.Ex.trans dh bZ)))))))))
 refine Pl.pY Tryz.underlying22 trivial rfl rfl rfl rfl rfl ?_
 refine Pl.bV (v:=.bool true) (fun X=>Pl.gL (Pl.e_t (by omega)) X) trivial rfl rfl rfl rfl rfl rfl ?_
 refine Pl.aG trivial rfl ?_
 refine Pl.az rfl rfl rfl rfl rfl (fun u X=>Pl.enters Tryz.func15 (by kernel_rfl) rfl u X) ?_
 refine Calls.mono (mK _ _ _ 1000000007 1000000007 (Un.below DN (Pl.Ex.trans dL (Pl.Ex.trans fu (Pl.Ex.trans cZ (Pl.Ex.trans dw (Pl.Ex.trans dh bZ)))))) (Un.below hv1 (Pl.Ex.trans hE2 (Pl.Ex.trans bJ (Pl.Ex.trans bX (Pl.Ex.trans bE (Pl.Ex.trans bu (Pl.Ex.trans cB (Pl.Ex.trans dL (Pl.Ex.trans fu (Pl.Ex.trans cZ (Pl.Ex.trans dw (Pl.Ex.trans dh bZ)))))))))))) true (decide_eq_true rfl)) ?_
 rintro e Ph ⟨rfl,bO⟩
 have Co:=Pl.Ex.size bO
 refine ⟨_,rfl,trivial,?_⟩
 refine Pl.aG trivial rfl ?_
 refine Pl.az rfl rfl rfl rfl rfl (fun u X=>Pl.enters Tryz.func15 (by kernel_rfl) rfl u X) ?_
 refine Calls.mono (mK _ _ _ 1000000007 1000000007 (Un.below xk (Pl.Ex.trans fu (Pl.Ex.trans cZ (Pl.Ex.trans dw (Pl.Ex.trans dh (Pl.Ex.trans bZ bO)))))) (Un.below hv1 (Pl.Ex.trans hE2 (Pl.Ex.trans bJ (Pl.Ex.trans bX (Pl.Ex.trans bE (Pl.Ex.trans bu (Pl.Ex.trans cB (Pl.Ex.trans dL (Pl.Ex.trans fu (Pl.Ex.trans cZ (Pl.Ex.trans dw (Pl.Ex.trans dh (Pl.Ex.trans bZ bO))))))))))))) true (decide_eq_true rfl)) ?_
 rintro e w16 ⟨rfl,bH⟩
 have xU:=Pl.Ex.size bH
 refine ⟨_,rfl,trivial,?_⟩
 refine Pl.aG trivial rfl ?_
 obtain ⟨A19,c20,rfl⟩:=oZ (Un.below nP (Pl.Ex.trans fu (Pl.Ex.trans cZ (Pl.Ex.trans dw (Pl.Ex.trans dh (Pl.Ex.trans bZ (Pl.Ex.trans bO bH)))))))
 refine Pl.pY Tryz.underlying22 trivial rfl rfl rfl rfl rfl ?_
 refine Pl.bV (v:=.bool true) (fun X=>Pl.gL (Pl.e_t (by omega)) X) trivial rfl rfl rfl rfl rfl rfl ?_
 refine Pl.aG trivial rfl ?_
 refine Pl.az rfl rfl rfl rfl rfl (fun u X=>Pl.enters Tryz.func15 (by kernel_rfl) rfl u X) ?_
 refine Calls.mono (mK _ _ _ 1000000014000000049 1000000014000000049 (Un.below pX (Pl.Ex.trans dw (Pl.Ex.trans dh (Pl.Ex.trans bZ (Pl.Ex.trans bO bH))))) (Un.below hv2 (Pl.Ex.trans bJ (Pl.Ex.trans bX (Pl.Ex.trans bE (Pl.Ex.trans bu (Pl.Ex.trans cB (Pl.Ex.trans dL (Pl.Ex.trans fu (Pl.Ex.trans cZ (Pl.Ex.trans dw (Pl.Ex.trans dh (Pl.Ex.trans bZ (Pl.Ex.trans bO bH))))))))))))) true (decide_eq_true rfl)) ?_
 rintro e KZ ⟨rfl,bC⟩
 have yM:=Pl.Ex.size bC
 refine ⟨_,rfl,trivial,?_⟩
 refine Pl.aG trivial rfl ?_
 refine Pl.bV (v:=.bool true) (fun X=>Pl.gL (Pl.e_t (by omega)) X) trivial rfl rfl rfl rfl rfl rfl ?_
 refine Pl.aG trivial rfl ?_
 refine Pl.TJ (.pointer (some ⟨zZ,0,none⟩)) trivial rfl rfl rfl rfl (fun X=>by kernel_rfl) ?_
 refine Pl.oI (v:=.bool true) Tryz.underlying4 rfl (Pl.Cb.at (j:=0) (Pl.Cb.ex fK (Pl.Ex.trans bZ (Pl.Ex.trans bO (Pl.Ex.trans bH bC)))) rfl) trivial rfl rfl rfl rfl rfl ?_
 refine Pl.aG trivial rfl ?_
 refine Pl.TJ (.pointer (some ⟨zZ,1,none⟩)) trivial rfl rfl rfl rfl (fun X=>by kernel_rfl) ?_
 refine Pl.oI (v:=.slice Pk (limbs 1000000014000000049).length c14) Tryz.underlying22 rfl (Pl.Cb.at (j:=1) (Pl.Cb.ex fK (Pl.Ex.trans bZ (Pl.Ex.trans bO (Pl.Ex.trans bH bC)))) rfl) trivial rfl rfl rfl rfl rfl ?_
 refine Pl.aG trivial rfl ?_
 refine Pl.az rfl rfl rfl rfl rfl (fun u X=>Pl.enters Tryz.func15 (by kernel_rfl) rfl u X) ?_
 refine Calls.mono (mK _ _ _ 1000000014000000049 1000000014000000049 (Un.below Pm (Pl.Ex.trans dh (Pl.Ex.trans bZ (Pl.Ex.trans bO (Pl.Ex.trans bH bC))))) (Un.below hv2 (Pl.Ex.trans bJ (Pl.Ex.trans bX (Pl.Ex.trans bE (Pl.Ex.trans bu (Pl.Ex.trans cB (Pl.Ex.trans dL (Pl.Ex.trans fu (Pl.Ex.trans cZ (Pl.Ex.trans dw (Pl.Ex.trans dh (Pl.Ex.trans bZ (Pl.Ex.trans bO (Pl.Ex.trans bH bC)))))))))))))) true (decide_eq_true rfl)) ?_
 rintro e Nj ⟨rfl,bQ⟩
 have xV:=Pl.Ex.size bQ
 refine ⟨_,rfl,trivial,?_⟩
 refine Pl.aG trivial rfl ?_
 refine Pl.az rfl rfl rfl rfl rfl (fun u X=>Pl.enters Tryz.func28 (by kernel_rfl) rfl u X) ?_
 refine Calls.mono (vw _ _ 1000000007 (Un.below hv1 (Pl.Ex.trans hE2 (Pl.Ex.trans bJ (Pl.Ex.trans bX (Pl.Ex.trans bE (Pl.Ex.trans bu (Pl.Ex.trans cB (Pl.Ex.trans dL (Pl.Ex.trans fu (Pl.Ex.trans cZ (Pl.Ex.trans dw (Pl.Ex.trans dh (Pl.Ex.trans bZ (Pl.Ex.trans bO (Pl.Ex.trans bH (Pl.Ex.trans bC bQ)))))))))))))))) (Sn.le (Sn.bits (b:=32) (by decide) (by decide):Sn 1000000007 1) (by decide)) _ rfl) ?_
 rintro e Yc ⟨rfl,bU⟩
 have I4:=Pl.Ex.size bU
 refine ⟨_,rfl,trivial,?_⟩
 have ar1:(aU 1000000007)=30:=adx
 refine Pl.bV (v:=.bool true) (fun X=>Pl.gL (Pl.e_t (by omega)) X) trivial rfl rfl rfl rfl rfl rfl ?_
 refine Pl.aG trivial rfl ?_
 refine Pl.aj ?_
 repeat refine Pl.ay ?_
 exact Pl.bI rfl rfl  (⟨rfl,(Pl.Ex.trans hE1 (Pl.Ex.trans hE2 (Pl.Ex.trans bJ (Pl.Ex.trans bX (Pl.Ex.trans bE (Pl.Ex.trans bu (Pl.Ex.trans cB (Pl.Ex.trans dL (Pl.Ex.trans fu (Pl.Ex.trans cZ (Pl.Ex.trans dw (Pl.Ex.trans dh (Pl.Ex.trans bZ (Pl.Ex.trans bO (Pl.Ex.trans bH (Pl.Ex.trans bC (Pl.Ex.trans bQ bU)))))))))))))))))⟩)
end Go.Proofs.YtfhcmggpojhegaaGreatDoor
