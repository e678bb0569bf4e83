/- Quotient and rest, word by word. -/
import Derived.Test.YtnilonnkcbkdmaaGreatDoorBao
import Derived.Test.YtnilonnkcbkdmaaGreatDoorBap
import Derived.Test.YtnilonnkcbkdmaaGreatDoorBaq
import Derived.Test.YtnilonnkcbkdmaaGreatDoorBaj
import Derived.Laws.IdiomArrays
import Derived.WideKeyPair
import Derived.WideKeyArr2

namespace Go.Proofs.YtnilonnkcbkdmaaGreatDoor
open Go.RowKit
set_option linter.unusedVariables false
set_option maxHeartbeats 400000
theorem RS (n:Nat):BB^n=2^(64*n):=by
 rw [Nat.pow_mul,show (2:Nat)^64=BB from by decide]
theorem MH (n:Nat):(4294967296:Nat)^n=2^(32*n):=by
 rw [Nat.pow_mul,show (2:Nat)^32=4294967296 from by decide]
theorem ajP (n:Nat):BB^n=4294967296^(2*n):=by
 rw [RS,MH];congr 1;omega
theorem RU (b L n sh V:Nat) (hL:(limbs b).length=L) (h2:2≤L) (hn:(L+1)/2=n) (hsh:64*n-bS b=sh) (hV:b*2^sh=V) :
  bS b≤64*n∧sh≤64∧V<BB^n∧9223372036854775808*BB^(n-1)≤V∧(limbs V).length≤2*n:=by
 have h1:bS b≤32*L:=by rw [← hL];exact jQ b
 have h3:4294967296^(L-1)≤b:=rA (by omega)
 rw [MH] at h3
 have h4:=gU h3
 have hb0:b≠0:=by
  intro e
  rw [e,bf] at hL
  simp at hL;omega
 have h5:=dI b
 have h6:=xI hb0
 have h7:V<BB^n:=by
  rw [← hV,RS,show 64*n=bS b+sh by omega,Nat.pow_add]
  exact Nat.mul_lt_mul_of_pos_right h5 (Nat.two_pow_pos _)
 refine ⟨by omega,by omega,h7,?_,fM (by rw [← ajP];exact h7)⟩
 have h8:2^(bS b-1)*2^sh≤V:=by rw [← hV];exact Nat.mul_le_mul_right _ h6
 rw [← Nat.pow_add,show bS b-1+sh=63+64*(n-1) by omega,Nat.pow_add,← RS,show (2:Nat)^63=9223372036854775808 from by decide] at h8
 exact h8
theorem RV (A lA n m:Nat) (hA:(limbs A).length=lA) (hm:max ((lA+1)/2) n+1=m):A<BB^(m-1):=by
 have h1:=pO A
 rw [hA] at h1
 refine Nat.lt_of_lt_of_le h1 ?_
 rw [ajP]
 exact Nat.pow_le_pow_right (by decide) (by omega)
theorem X0 (vs:List Nat) (k V:Nat) (hl:vs.length=k+1) (hx:∀ x∈vs,x<18446744073709551616) (hv:bF vs=V) (h:9223372036854775808*BB^k≤V):9223372036854775808≤lb vs k:=by
 have h1:=vR vs k hl hx
 rw [hv,Nat.mul_comm] at h1
 have h2:9223372036854775808*BB^k<(lb vs k+1)*BB^k:=by omega
 have:=Nat.lt_of_mul_lt_mul_right h2
 omega
set_option maxRecDepth 100000 in
set_option maxHeartbeats 8000000 in
theorem OT (w:World) (va vb:Value) (a b q r:Nat) (ha:Un w va a) (hb:Un w vb b) (hla:(limbs a).length≤1000) (hlb:(limbs b).length≤1000) (h2:2≤(limbs b).length) (hq:a/b=q) (hr:a%b=r) :
  Calls Tryz.prog 121 #[va,vb] w fun e w'=>(∃ x y,e = .returned (.tuple #[x,y])∧Un w' x q∧Un w' y r)∧Ext w w':=by
 obtain ⟨L,hL⟩:∃ L,(limbs b).length=L:=⟨_,rfl⟩
 obtain ⟨n,hn⟩:∃ n,(L+1)/2=n:=⟨_,rfl⟩
 obtain ⟨bl,hbl⟩:∃ bl,bS b=bl:=⟨_,rfl⟩
 obtain ⟨sh,hsh⟩:∃ sh,64*n-bl=sh:=⟨_,rfl⟩
 obtain ⟨V0,hV⟩:∃ V0,b*2^sh=V0:=⟨_,rfl⟩
 obtain ⟨A0,hA⟩:∃ A0,a*2^sh=A0:=⟨_,rfl⟩
 rw [hL] at hlb h2
 obtain ⟨m1,m2,m3,m4,m5⟩:=RU b L n sh V0 hL h2 hn (by rw [hbl];exact hsh) hV
 rw [hbl] at m1
 obtain ⟨lA,hlA⟩:∃ lA,(limbs A0).length=lA:=⟨_,rfl⟩
 have axK:lA≤1002:=by rw [← hlA,← hA];exact Nat.le_trans (KN a 1000 sh 2 hla (by omega)) (by omega)
 obtain ⟨h,hh⟩:∃ h,(lA+1)/2=h:=⟨_,rfl⟩
 obtain ⟨mx,hmx⟩:∃ mx,max h n=mx:=⟨_,rfl⟩
 obtain ⟨m,hm⟩:∃ m,mx+1=m:=⟨_,rfl⟩
 have aq1:=RV A0 lA n m hlA (by rw [hh,hmx];exact hm)
 obtain ⟨k,hk⟩:∃ k,m-n=k:=⟨_,rfl⟩
 have hkm:k+n=m:=by omega
 have hk1:1≤k:=by omega
 have hn1:1≤n:=by omega
 have hnb:n≤501:=by omega
 have hmb:m≤503:=by omega
 obtain ⟨n1,aa1⟩:∃ n1,n=n1+1:=⟨n-1,by omega⟩
 have kG:=Lib.hid (aa2 w vb b hb (by omega) (bl:Int) (by rw [hbl]))
 have aq2:=Lib.hid (fun W v (h:Un W v b)=>ajQ W v b (sh:Int) h (Int.natCast_nonneg _) (by omega) (by omega) V0 (by rw [Int.toNat_natCast];exact hV))
 have aq3:=Lib.hid (fun W v (h:Un W v a)=>ajQ W v a (sh:Int) h (Int.natCast_nonneg _) (by omega) (by omega) A0 (by rw [Int.toNat_natCast];exact hA))
 have HPv:=Lib.hid (fun W v (h:Un W v V0)=>Et W v (limbs V0) h (by omega) n (by omega) (by omega))
 have HPa:=Lib.hid (fun W v (h:Un W v A0)=>Et W v (limbs A0) h (by omega) m (by rw [hlA];omega) (by omega))
 have aq4:Hid (∀ vs:List Nat,vs.length=n→(∀ x∈vs,x<18446744073709551616)→bF vs=V0→9223372036854775808≤lb vs n1):=fun vs e1 e2 e3=>X0 vs n1 V0 (by omega) e2 e3 (by rw [show n1=n-1 by omega];exact m4)
 have aq5:Hid (∀ o:List Nat,o.length=m→(∀ x∈o,x<18446744073709551616)→bF o=A0→XW V0 A0 n m k o (List.replicate k 0)):=fun o e1 e2 e3=>XW.start V0 A0 n m o k hkm (by omega) e1 e2 e3 aq1 (Nat.le_trans (Nat.le_mul_of_pos_left _ (by decide)) m4)
 have HLT:=Lib.hid m3
 obtain ⟨R0,hR0⟩:∃ R0,r*2^sh=R0:=⟨_,rfl⟩
 have AJ:Hid (∀ o ql,XW V0 A0 n m 0 o ql→bF ql=q∧bF (o.take n)=R0):=fun o ql h=>by
  obtain ⟨d1,d2⟩:=h.done m3 (by omega)
  rw [← hA,← hV,Nat.mul_div_mul_right _ _ (Nat.two_pow_pos sh),hq] at d1
  rw [← hA,← hV,Nat.mul_mod_mul_right,hr,hR0] at d2
  exact ⟨d1.symm,d2⟩
 have hrb:(limbs R0).length≤1002:=by
  rw [← hR0]
  refine Nat.le_trans (KN r 1000 sh 2 ?_ (by omega)) (by omega)
  exact Nat.le_trans (gV (by rw [← hr];exact Nat.mod_le _ _)) hla
 have aq6:=Lib.hid (fun W v (h:Un W v R0)=>aq7 W v R0 (sh:Int) h (Int.natCast_nonneg _) (by omega) (by omega) r (by rw [Int.toNat_natCast,← hR0];exact Nat.mul_div_cancel _ (Nat.two_pow_pos sh)))
 have HNN:=Lib.hid (And.intro aa1 (And.intro hkm (And.intro hk1 (And.intro hn1 (And.intro hnb hmb)))))
 have e1:((L:Int)+1)/2=(n:Int):=by omega
 have e2:((L:Int)+1).tdiv 2=(n:Int):=by rw [Int.tdiv_eq_ediv_of_nonneg (by omega)];exact e1
 have e3:(64:Int)*(n:Int)-(bl:Int)=(sh:Int):=by omega
 have e4:((lA:Int)+1)/2=(h:Int):=by omega
 have e5:((lA:Int)+1).tdiv 2=(h:Int):=by rw [Int.tdiv_eq_ediv_of_nonneg (by omega)];exact e4
 have e6:(if (h:Int)<(n:Int) then (n:Int) else (h:Int))=(mx:Int):=by split<;>omega
 have e7:(if h<n then (n:Int) else (h:Int))=(mx:Int):=by split<;>omega
 have e8:(mx:Int)+1=(m:Int):=by omega
 have e9:(m:Int)-(n:Int)=(k:Int):=by omega
 have HBD:=Lib.hid (And.intro hlb (And.intro axK (show bl≤64*501 by omega)))
 obtain ⟨Ab,cb,rfl,hcb⟩:=hb.shape
 rw [hL] at kG
 have hb':Un w (.slice Ab (limbs b).length cb) b:=hb
 rw [hL] at hb' ⊢
 have HLA:=Lib.hid hlA
 have yQ:=Ext.refl w
 clear hb hL hn hbl hsh hV hA hlA hh hmx hm hk m1 m3 m4 m5 aq1 hq hr hR0 aa1 hkm hk1 hn1 hcb
 go_enter Tryz.func121,Tryz.ntmps121
 go_wp2_with (fail)
 refine kG.out.mono ?_
 rintro e w1 ⟨rfl,hB⟩
 replace hb':=U.below (U.aL hb') hB
 replace ha:=U.below (U.aL ha) hB
 replace yQ:=yQ.below hB
 clear hB kG
 go_wp2_with (fail)
 refine (aq2.out _ _ hb').mono ?_
 rintro e w2 ⟨v2,rfl,hv2,hB⟩
 replace ha:=U.below (U.aL ha) hB
 replace yQ:=yQ.below hB
 clear hB aq2 hb'
 go_wp2_with (fail)
 have hs2:=yQ.size
 refine (HPv.out _ _ hv2).mono ?_
 rintro e w3 ⟨rfl,⟨vs,hov,hwv,hxv,hlv⟩,hB⟩
 rw [aG] at hwv
 replace hov:=hov.rM hs2
 replace ha:=U.below (U.aL ha) hB
 replace yQ:=yQ.below hB
 clear hB HPv hv2
 generalize w2.heap.size=gv at *
 go_wp2_with (fail)
 refine (aq3.out _ _ ha).mono ?_
 rintro e w4 ⟨va4,rfl,hva,hB⟩
 replace hov:=hov.ext hB
 replace yQ:=yQ.below hB
 clear hB aq3 ha
 obtain ⟨Aa,ca,rfl,hca⟩:=U.shape (U.aL hva)
 rw [HLA.out] at hva ⊢
 go_wp2_with (fail)
 have hs4:=yQ.size
 have hvb:=hov.block
 refine (HPa.out _ _ hva).mono ?_
 rintro e w5 ⟨rfl,⟨o,hoa,hwa,hxa,hlo⟩,hB⟩
 rw [aG] at hwa
 have hne1:gv≠w4.heap.size:=by omega
 replace hoa:=hoa.rM hs4
 replace hov:=hov.ext hB
 replace yQ:=yQ.below hB
 clear hB HPa hva hca hvb
 generalize w4.heap.size=gu at *
 have hST:=aq5.out o hlo hxa hwa
 have HSS:=Lib.hid hST
 have htop:=aq4.out vs hlv hxv hwv
 have hs5:=yQ.size
 have hub:=hoa.block
 have hvb:=hov.block
 have hne2:gu≠w5.heap.size:=by omega
 have aE2:gv≠w5.heap.size:=by omega
 obtain ⟨i0,hi,hz0,hz1,hz2⟩:=info_parts xH
 have hkb:k≤503:=by have:=HNN.out;omega
 have hmb:m≤503:=by have:=HNN.out;omega
 have hnb:n≤501:=by have:=HNN.out;omega
 have HTP:=Lib.hid htop
 have HWV:=Lib.hid hwv
 have HXV:=Lib.hid hxv
 clear hST htop hwv hxv hwa hxa aq5 aq4
 go_wp2_with (at_make;refine wpList_make_full _ rfl _ _ 130 rfl w5.heap.size 73 i0 (.int .u64 0) 1 Tryz.underlying130 hi hz0 hz1 _ _ _ _ k rfl rfl (by omega) (by omega) (by rw [hz2];omega) (by unfold maxLen;omega) (Nat.le_refl _) ?_;intro w6 hown hgrow)
 have hoq:=Ow.zeros hown
 have AL:Ext w5 w6:=(Ext.refl w5).grown hgrow (Nat.le_refl _) (fun _ h=>by cases h)
 replace hoq:=hoq.rM hs5
 replace hoa:=hoa.ext AL
 replace hov:=hov.ext AL
 replace yQ:=yQ.below AL
 generalize w5.heap.size=gq at *
 have hgu:=hoa.block.1
 clear hown hgrow hi hz0 hz1 hz2 i0 AL hub hvb hs2 hs4 hs5
 go_wp2
 go_loopw [11] (fun t wr=>∃ (j:Nat) (z:Int) (o ql:List Nat),j≤k∧t = .int .i64 z∧z=(j:Int)-1∧Hid (XW V0 A0 n m j o ql)∧Ow wr w.heap.size (.slice (some ⟨gu,0,none⟩) m m) o∧Ow wr w.heap.size (.slice (some ⟨gq,0,none⟩) k k) ql∧Ow wr w.heap.size (.slice (some ⟨gv,0,none⟩) n n) vs∧Ext w wr) (fun t _=>(intOf t+1).toNat)
 case atStart=>exact ⟨k,_,_,_,Nat.le_refl _,rfl,rfl,HSS,hoa,hoq,hov,yQ⟩
 case round =>
  clear hoa hoq hov yQ HSS
  obtain ⟨j,z,o,ql,hj,rfl,hz,HO,hoa,hoq,hov,hE⟩:=hrel
  cases j with
  | zero =>
   obtain rfl:z = -1:=by omega
   obtain ⟨d1,d2⟩:=AJ.out o ql HO.out
   have hq0:=hoq.J5 HO.out.xq (gq+1) (by omega)
   have hlq:ql.length≤1000000:=by have:=HO.out.lq;omega
   have hu0:=(hoa.J5 HO.out.xo (gu+1) (by omega)).take (k:=n) (c':=m) (by have:=HNN.out;omega) (by have:=HNN.out;omega)
   have hun:(o.take n).length≤1000000:=by rw [List.length_take];omega
   have HU1:=Lib.hid (zN _ _ _ _ (V.below hq0 ((Ext.refl wr).drew)) hlq q d1)
   have HU2:=Lib.hid (fun W (h:V (gu+1) W (.slice (some ⟨gu,0,none⟩) n m) (o.take n))=>zN W _ _ _ h hun R0 d2)
   have hu1:=V.below hu0 ((Ext.refl wr).drew)
   have b1:(n:Int)≤(m:Int):=by have:=HNN.out;omega
   have b2:n≤m:=by have:=HNN.out;omega
   have b3:(0:Int)≤(n:Int):=Int.natCast_nonneg n
   clear d1 d2 hq0 hlq hun hu0 hoa hoq hov HO AJ hz HTP HWV HXV HNN
   go_wp2_with (fail)
   go_region_held3 (fun X=>True)
    (first
     | exact trivial)
    (first
     | (go_at_call 151;((with_reducible refine HU1.out.mono ?_);rintro e wa ⟨⟨x1,rfl,hx1⟩,hB1⟩;have hu2:=hu1.below hB1))
     | (go_at_call 151;((with_reducible refine (HU2.out _ hu2).mono ?_);rintro e wb ⟨⟨x2,rfl,hx2⟩,hB2⟩;have ahs:=U.below (U.aL hx1) hB2))
     | (go_at_call 114;((with_reducible refine (aq6.out _ _ hx2).mono ?_);rintro e wc ⟨x3,rfl,hx3,hB3⟩;have aq8:=U.below ahs hB3)))
   have HF:Hid (∃ x y,Ending.returned (.tuple #[x1,x3]) = .returned (.tuple #[x,y])∧Un wc x q∧Un wc y r):=⟨_,_,rfl,aq8,hx3⟩
   have hEF:=((hE.drew.below hB1).below hB2).below hB3
   clear hx1 hx2 hx3 ahs aq8 hB1 hB2 hB3 hu1 hu2 HU1 HU2 aq6 hE
   go_wp2
   go_ret2
   exact ⟨HF.out,hEF⟩
  | succ j =>
   obtain rfl:z=(j:Int):=by omega
   obtain ⟨aa1,hkm,hk1,hn1,-,-⟩:=HNN.out
   obtain ⟨p1,p2,p3,p4⟩:=Vl HO.out (by omega) HLT.out
   have aq9:Ow wr w.heap.size (.slice (some ⟨gu,0,none⟩) m m) (Sg (o.take j) ((o.drop j).take (n+1)) ((o.drop j).drop (n+1))):=by rw [← aaS];exact hoa
   have hV0:V gu wr (.slice (some ⟨gv,0,none⟩) n n) vs:=hov.J5 HXV.out gu hne1
   have ara:=Lib.hid (OP wr gu w.heap.size m m j (m-j) _ _ _ vs _ aq9 (fun x hx=>HO.out.xo x (List.mem_of_mem_drop (List.mem_of_mem_take hx))) p4 n n1 aa1 p1 hlv (by omega) (by omega) hV0 HTP.out (by rw [HWV.out];exact p2))
   have i1:(j:Int)+(n:Int)+1≤(m:Int):=by omega
   have i2:(j:Int)≤(j:Int)+(n:Int)+1:=by omega
   have i3:j≤m:=by omega
   have i4:j+n+1-j=n+1:=by omega
   have i5:((j:Int)+(n:Int)+1).toNat=j+n+1:=by omega
   have i6:j<k:=by omega
   have i7:j+1+n≤m:=by omega
   clear aa1 hkm hk1 hn1 p1 p2 p3 p4 aq9 hV0 hoa hz
   go_wp2_with (fail)
   refine ara.out.mono ?_
   rintro e w7 ⟨⟨d,s',rfl,hd,hsl,hsx,hdm,hdv,arb⟩,hB⟩
   have HSN:Hid (XW V0 A0 n m j (Sg (o.take j) s' ((o.drop j).drop (n+1))) (ql.set j d)):=HO.out.step i7 HLT.out d (bF s') s' hsl hsx hd (by rw [← HWV.out];exact hdm) rfl (by rw [← HWV.out];exact hdv)
   have hq2:=hoq.but hB (show gq≠gu by omega)
   have arc:=hov.but hB (show gv≠gu by omega)
   have hf:=hq2.frozen j
   have hcz:=hq2.cell (j:=j) i6
   have hq3:=hq2.rO j d
   have qH:But gq w7 (w7.setCell ⟨gq,j,none⟩ (.int .u64 (d:Nat))):=(But.refl gq w7).setCell j _
   have axN:=arb.but qH (show gu≠gq by omega)
   have axO:=arc.but qH (show gv≠gq by omega)
   have hgq:=hq2.block.1
   have pE:=(hE.but hB hgu).setCell (p:=⟨gq,j,none⟩) hgq (.int .u64 (d:Nat))
   clear ara hsl hsx hdm hdv arb hB hq2 arc qH hoq hov hE HO hd
   go_wp2
   go_roundw
   case rel=>exact ⟨j,_,_,_,by omega,rfl,rfl,HSN,axN,hq3,axO,pE⟩
   case measure=>simp [intOf]
end Go.Proofs.YtnilonnkcbkdmaaGreatDoor
/- Powers; live questions. -/
namespace Go.Proofs.YtnilonnkcbkdmaaGreatDoor
open Go.RowKit
set_option linter.unusedVariables false
set_option maxHeartbeats 400000
theorem dA (x:Nat) (h0:x≠0) (h:x<4294967296):limbs x=[x]:=by
 rw [eG h0,Nat.mod_eq_of_lt h,Nat.div_eq_of_lt h,bf]
end Go.Proofs.YtnilonnkcbkdmaaGreatDoor
/- Live questions, whose answers are fixed. -/
namespace Go.Proofs.YtnilonnkcbkdmaaGreatDoor
open Go.RowKit
set_option linter.unusedVariables false
set_option maxHeartbeats 400000
theorem ahv (w:World) (N:Nat) (hN:w.heap.size=N) (x:Nat) (h0:x≠0) (h:x<4294967296):Un (w.alloc (.cells #[.int .u32 (x:Nat)] 43)) (.slice (some ⟨N,0,none⟩) 1 1) x:=by
 subst hN
 have:=xJ w [x] (by simpa using h) (by simp)
 rw [Un,dA x h0 h]
 exact this
theorem axR {x:Nat} (h:x<4294967296):(limbs x).length≤398:=Nat.le_trans (iA (k:=1) (by unfold LB;omega)) (by decide)
end Go.Proofs.YtnilonnkcbkdmaaGreatDoor
/- Division by school, and whatever goes to it. -/
namespace Go.Proofs.YtnilonnkcbkdmaaGreatDoor
open Go.RowKit
set_option linter.unusedVariables false
set_option maxHeartbeats 400000
theorem Ya {b:Nat} (h:(limbs b).length=1):b<4294967296∧b≠0∧lb (limbs b) 0=b:=by
 have h1:=bO (show (limbs b).length≤1 by omega)
 rw [Nat.pow_one] at h1
 have h0:b≠0:=by
  intro e;rw [e,bf] at h;simp at h
 refine ⟨h1,h0,?_⟩
 rw [rR,Nat.pow_zero,Nat.div_one,Nat.mod_eq_of_lt h1]
theorem oI {b:Nat} (h:b≠0):0<(limbs b).length:=by
 rcases Nat.eq_zero_or_pos (limbs b).length with e | e
 · exact absurd (MI.1 (List.length_eq_zero_iff.1 e)) h
 · exact e
def Dv (w w':World) (e:Ending) (q r:Nat):Prop:=(∃ x y,e = .returned (.tuple #[x,y,.int .i64 0])∧Un w' x q∧Un w' y r)∧Ext w w'
def Dz (w w':World) (e:Ending):Prop:=e = .returned (.tuple #[.slice none 0 0,.slice none 0 0,.int .i64 3])∧Ext w w'
set_option maxRecDepth 100000 in
set_option maxHeartbeats 8000000 in
theorem aa3 (w:World) (va vb:Value) (a b q r:Nat) (ha:Un w va a) (hb:Un w vb b) (hla:(limbs a).length≤1000) (hlb:(limbs b).length≤1000) (h0:b≠0) (hq:a/b=q) (hr:a%b=r) :
  Calls Tryz.prog 93 #[va,vb] w fun e w'=>Dv w w' e q r:=by
 unfold Dv
 have hnz:=oI h0
 obtain ⟨Ab,cb,rfl,hcb⟩:=U.shape (U.aL hb)
 obtain ⟨L,hL⟩:∃ L,(limbs b).length=L:=⟨_,rfl⟩
 obtain ⟨k,hk⟩:∃ k,bQ (a:Int) (b:Int)=k:=⟨_,rfl⟩
 have RX:=Lib.hid (KO w va _ a b ha hb k hk)
 have hb2:=hb
 rw [hL] at hnz hlb hb2 RX ⊢
 have hL0:((L:Int)==0)=false:=by rw [beq_eq_false_iff_ne];omega
 have axP:¬ L=0:=by omega
 have yQ:=Ext.refl w
 rcases Nat.lt_or_ge a b with hlt | hge
 · have hq0:q=0:=by rw [← hq];exact Nat.div_eq_of_lt hlt
   have hr0:r=a:=by rw [← hr];exact Nat.mod_eq_of_lt hlt
   have hk1:k = -1:=by rw [← hk];exact fu (by omega)
   subst hq0 hr0 hk1
   clear hq hr hk hlt hb hb2 hL hcb hla hlb
   go_enter Tryz.func93,Tryz.ntmps93
   go_wp2_with (fail)
   refine RX.out.mono ?_
   rintro e w1 ⟨rfl,hB⟩
   replace ha:=U.below (U.aL ha) hB
   replace yQ:=yQ.below hB
   have HF:Hid (∃ x y,Ending.returned (.tuple #[.slice none 0 0,va,.int .i64 0]) = .returned (.tuple #[x,y,.int .i64 0])∧Un w1 x 0∧Un w1 y r):=⟨_,_,rfl,uA _,ha⟩
   clear hB RX ha
   go_wp2
   go_ret3
   exact ⟨HF.out,yQ⟩
 · have hk1:¬ k<0:=by
    rw [← hk]
    rcases Nat.lt_or_ge b a with h | h
    · rw [fG (by omega)];decide
    · rw [show a=b by omega,fZ];decide
   have hk2:decide (k<0)=false:=by rw [decide_eq_false_iff_not];exact hk1
   by_cases h1:L=1
   · obtain ⟨b1,b2,b3⟩:=Ya (hL.trans h1)
     have hS:=Lib.hid (fun W (h:Un W va a)=>OQ W va a b h (by omega) b1 h0 q r hq hr)
     have hL1:((L:Int)==1)=true:=by rw [beq_iff_eq];omega
     obtain ⟨ad,rfl,hbk,hcell⟩:∃ ad,Ab=some ad∧ad.block<w.heap.size∧w.cell? ad=some (.int .u32 (b:Nat)):=by
      obtain ⟨A',c',hv,_,_,hr'⟩:=hb
      obtain ⟨ad,e1,e2,e3⟩:=hr' (by omega)
      injection hv with hv1
      have:=e3 0 (by omega)
      rw [fJ,b3] at this
      exact ⟨ad,by rw [hv1,e1],e2,this⟩
     have hrb:r<4294967296:=by rw [← hr];exact Nat.lt_trans (Nat.mod_lt _ (by omega)) b1
     have HRB:=Lib.hid hrb
     subst h1
     clear hq hr hk hge b1 b2 b3 hb hb2 hL hla hlb h0 hrb axP
     go_enter Tryz.func93,Tryz.ntmps93
     go_wp2_with (fail)
     refine RX.out.mono ?_
     rintro e w1 ⟨rfl,hB⟩
     replace ha:=U.below (U.aL ha) hB
     replace yQ:=yQ.below hB
     have hcell1:=(hB.cell (p:=ad) hbk).trans hcell
     clear hB RX hcell
     go_wp2_with (fail)
     refine (hS.out _ ha).mono ?_
     rintro e w2 ⟨⟨x,rfl,hx⟩,hB⟩
     replace yQ:=yQ.below hB
     have HU:Hid (U (w2.alloc (.cells #[.int .u32 (r:Nat)] 43)) (.slice (some ⟨w2.heap.size,0,none⟩) 1 1) [r]):=xJ w2 [r] (by simpa using HRB.out) (by simp)
     have HMK:Hid (∀ W v,U W v [r]→Calls Tryz.prog 77 #[v] W fun e w'=>∃ u,e = .returned u∧Un w' u r∧Ext W w'):=fun W v h=>Dl W v [r] h r (by simp [val])
     clear hB hS hcell1 ha
     go_wp2_with (fail)
     refine (HMK.out _ _ HU.out).mono ?_
     rintro e w3 ⟨y,rfl,hy,hB⟩
     have HF:Hid (∃ x' y',Ending.returned (.tuple #[x,y,.int .i64 0]) = .returned (.tuple #[x',y',.int .i64 0])∧Un w3 x' q∧Un w3 y' r):=⟨_,_,rfl,U.below (U.alloc (U.aL hx) _) hB,hy⟩
     have hEF:=(yQ.alloc _).below hB
     clear hx hy hB HU HMK yQ
     go_wp2
     go_ret3
     exact ⟨HF.out,hEF⟩
   · have hL1:((L:Int)==1)=false:=by rw [beq_eq_false_iff_ne];omega
     have hW:=Lib.hid (fun W (h:Un W va a) (h':Un W (.slice Ab L cb) b)=>OT W va _ a b q r h h' hla (by omega) (by omega) hq hr)
     clear hq hr hk hge hb hL hla hlb h0
     go_enter Tryz.func93,Tryz.ntmps93
     go_wp2_with (fail)
     refine RX.out.mono ?_
     rintro e w1 ⟨rfl,hB⟩
     replace ha:=U.below (U.aL ha) hB
     replace hb2:=U.below (U.aL hb2) hB
     replace yQ:=yQ.below hB
     clear hB RX
     go_wp2_with (fail)
     refine (hW.out _ ha hb2).mono ?_
     rintro e w2 ⟨⟨x,y,rfl,hx,hy⟩,hB⟩
     replace yQ:=yQ.below hB
     have HF:Hid (∃ x' y',Ending.returned (.tuple #[x,y,.int .i64 0]) = .returned (.tuple #[x',y',.int .i64 0])∧Un w2 x' q∧Un w2 y' r):=⟨_,_,rfl,hx,hy⟩
     clear hx hy hB hW ha hb2
     go_wp2
     go_ret3
     exact ⟨HF.out,yQ⟩
theorem Vn {w:World} {v:Value} (h:Un w v 0):∃ A c,v = .slice A 0 c:=by
 obtain ⟨A,c,rfl,hc⟩:=U.shape (U.aL h)
 exact ⟨A,c,by rw [bf];rfl⟩
theorem aa4 (w:World) (va vb:Value) (hb:Un w vb 0) :
  Calls Tryz.prog 93 #[va,vb] w fun e w'=>Dz w w' e:=by
 unfold Dz
 obtain ⟨Ab,cb,rfl⟩:=Vn hb
 have yQ:=Ext.refl w
 clear hb
 go_enter Tryz.func93,Tryz.ntmps93
 go_wp2
 go_ret3
 exact ⟨rfl,yQ⟩
set_option maxRecDepth 100000 in
set_option maxHeartbeats 8000000 in
theorem qh (w:World) (va vb:Value) (a b q r:Nat) (ha:Un w va a) (hb:Un w vb b) (hla:(limbs a).length≤1000) (hlb:(limbs b).length≤1000) (h0:b≠0) (hq:a/b=q) (hr:a%b=r) :
  Calls Tryz.prog 58 #[va,vb] w fun e w'=>Dv w w' e q r:=by
 have hS:=Lib.hid (aa3 w va vb a b q r ha hb hla hlb h0 hq hr)
 unfold Dv at *
 obtain ⟨Aa,ca,rfl,hca⟩:=U.shape (U.aL ha)
 obtain ⟨Ab,cb,rfl,hcb⟩:=U.shape (U.aL hb)
 clear ha hb hq hr h0
 generalize (limbs a).length=la at *
 generalize (limbs b).length=lb_ at *
 obtain ⟨d,hd⟩:∃ d:Int,(la:Int)-(lb_:Int)=d:=⟨_,rfl⟩
 obtain ⟨mn,hmn⟩:∃ mn:Int,(if d<(lb_:Int) then d else (lb_:Int))=mn:=⟨_,rfl⟩
 have hm1:decide ((1600:Int)≤mn)=false:=by rw [decide_eq_false_iff_not];split at hmn<;>omega
 have hm2:¬ (1600:Int)≤mn:=by split at hmn<;>omega
 have HA:=Lib.hid hca
 clear hca hcb
 go_enter Tryz.func58,Tryz.ntmps58
 go_wp2_with (fail)
 refine hS.out.mono ?_
 rintro e w1 ⟨⟨x,y,rfl,hx,hy⟩,hB⟩
 have HF:Hid (∃ x' y',Ending.returned (.tuple #[x,y,.int .i64 0]) = .returned (.tuple #[x',y',.int .i64 0])∧Un w1 x' q∧Un w1 y' r):=⟨_,_,rfl,hx,hy⟩
 clear hx hy hS
 go_wp2
 go_ret3
 exact ⟨HF.out,hB⟩
theorem OU (w:World) (va vb:Value) (a:Nat) (ha:Un w va a) (hb:Un w vb 0) (hla:(limbs a).length≤1000) :
  Calls Tryz.prog 58 #[va,vb] w fun e w'=>Dz w w' e:=by
 have hS:=Lib.hid (aa4 w va vb hb)
 unfold Dz at *
 obtain ⟨Aa,ca,rfl,hca⟩:=U.shape (U.aL ha)
 obtain ⟨Ab,cb,rfl⟩:=Vn hb
 clear ha hb
 generalize (limbs a).length=la at *
 have hm1:(if (la:Int)<0 then (la:Int) else 0)=0:=if_neg (by omega)
 go_enter Tryz.func58,Tryz.ntmps58
 go_wp2_with (fail)
 refine hS.out.mono ?_
 rintro e w1 ⟨rfl,hB⟩
 clear hS
 go_wp2
 go_ret3
 exact ⟨rfl,hB⟩
theorem mulN (w:World) (va vb:Value) (n m k:Nat) (ha:Un w va n) (hb:Un w vb m) (hn:(limbs n).length≤398) (hm:(limbs m).length≤398) (hk:n*m=k) :
  Calls Tryz.prog 63 #[va,vb] w fun e w'=>∃ u,e = .returned u∧Un w' u k∧Ext w w':=by
 refine (RY w va vb _ _ ha hb (by omega) (by omega) (by omega)).mono ?_
 rw [aG,aG,hk]
 rintro e w' ⟨⟨u,h1,h2⟩,h3⟩
 exact ⟨u,h1,h2,h3⟩
end Go.Proofs.YtnilonnkcbkdmaaGreatDoor
/- Reciprocals. -/
namespace Go.Proofs.YtnilonnkcbkdmaaGreatDoor
open Go.RowKit
set_option linter.unusedVariables false
set_option maxHeartbeats 400000
theorem jR (w:World):Un (w.alloc (.cells #[.int .u32 1] 43)) (.slice (some ⟨w.heap.size,0,none⟩) 1 1) 1:=ahv w _ rfl 1 (by decide) (by decide)
theorem qi:(limbs 1).length≤1000000000:=Nat.le_trans (axR (by decide)) (by decide)
end Go.Proofs.YtnilonnkcbkdmaaGreatDoor
/- The arguments of the laws of products. -/
namespace Go.Proofs.YtnilonnkcbkdmaaGreatDoor
open Go.ChangeShapes Go.WideShapes Go.ChangeAt Go.RowKit
set_option linter.unusedVariables false
set_option maxRecDepth 100000
set_option maxHeartbeats 400000
def Bx2 (w:World) (B:Nat) (va vb:Value):Prop:=B<w.heap.size∧w.cell? ⟨B,0,none⟩=some va∧w.cell? ⟨B,1,none⟩=some vb
theorem Bx2.ext {w w':World} {B:Nat} {va vb:Value} (h:Bx2 w B va vb) (hB:Ext w w'):Bx2 w' B va vb:=by
 obtain ⟨h0,h1,h2⟩:=h
 have hc:=fun o=>hB.cell (p:=⟨B,o,none⟩) h0
 exact ⟨Nat.lt_of_lt_of_le h0 hB.size,by rw [hc];exact h1,by rw [hc];exact h2⟩
theorem Bx2.new (w:World) (A A2:Option Addr) (la ca lb cb:Nat):Bx2 (w.alloc (.cells #[.slice A la ca,.slice A2 lb cb] 46)) w.heap.size (.slice A la ca) (.slice A2 lb cb):=⟨by simp,by go_simp,by go_simp⟩
def Bx3 (w:World) (B:Nat) (va vb vc:Value):Prop:=B<w.heap.size∧w.cell? ⟨B,0,none⟩=some va∧w.cell? ⟨B,1,none⟩=some vb∧w.cell? ⟨B,2,none⟩=some vc
theorem Bx3.ext {w w':World} {B:Nat} {va vb vc:Value} (h:Bx3 w B va vb vc) (hB:Ext w w'):Bx3 w' B va vb vc:=by
 obtain ⟨h0,h1,h2,h3⟩:=h
 have hc:=fun o=>hB.cell (p:=⟨B,o,none⟩) h0
 exact ⟨Nat.lt_of_lt_of_le h0 hB.size,by rw [hc];exact h1,by rw [hc];exact h2,by rw [hc];exact h3⟩
def Ltl (n k:Nat):Prop:=n<LB^k
theorem Ltl.le {n m i:Nat} (hn:Ltl n i) (h:m≤n):Ltl m i:=Nat.lt_of_le_of_lt h hn
end Go.Proofs.YtnilonnkcbkdmaaGreatDoor
