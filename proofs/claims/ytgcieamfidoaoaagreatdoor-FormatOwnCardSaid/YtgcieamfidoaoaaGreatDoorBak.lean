/- Products by whichever way; powers. -/
import Derived.Test.YtgcieamfidoaoaaGreatDoorBah
import Derived.Test.YtgcieamfidoaoaaGreatDoorBaj
import Derived.Test.YtgcieamfidoaoaaGreatDoorBag
set_option linter.all false
set_option maxHeartbeats 8000000
namespace Go.Proofs.YtgcieamfidoaoaaGreatDoor
open Go.RowKit
theorem kN {n k:Nat} (h:n<LB^k):(limbs n).length≤k:=gH h
theorem U.dX {w:World} {v:Value} {n:Nat} (h:Un w v n):U w v (limbs n):=h
end Go.Proofs.YtgcieamfidoaoaaGreatDoor
/- Quotient and rest, word by word. -/
namespace Go.Proofs.YtgcieamfidoaoaaGreatDoor
open Go.RowKit
theorem JX (n:Nat):BB^n=2^(64*n):=by
 rw [Nat.pow_mul,show (2:Nat)^64=BB from by decide]
theorem EY (n:Nat):(4294967296:Nat)^n=2^(32*n):=by
 rw [Nat.pow_mul,show (2:Nat)^32=4294967296 from by decide]
theorem Wp (n:Nat):BB^n=4294967296^(2*n):=by
 rw [JX,EY];congr 1;omega
theorem JY (b L n sh V:Nat) (hL:(limbs b).length=L) (h2:2≤L) (hn:(L+1)/2=n) (hsh:64*n-bJ b=sh) (hV:b*2^sh=V) :
  bJ b≤64*n∧sh≤64∧V<BB^n∧9223372036854775808*BB^(n-1)≤V∧(limbs V).length≤2*n:=by
 have h1:bJ b≤32*L:=by rw [← hL];exact zQ b
 have h3:4294967296^(L-1)≤b:=nY (by omega)
 rw [EY] at h3
 have h4:=mZ h3
 have hb0:b≠0:=by
  intro e
  rw [e,aX] at hL
  simp at hL;omega
 have h5:=iZ b
 have h6:=sG hb0
 have h7:V<BB^n:=by
  rw [← hV,JX,show 64*n=bJ b+sh by omega,Nat.pow_add]
  exact Nat.mul_lt_mul_of_pos_right h5 (Nat.two_pow_pos _)
 refine ⟨by omega,by omega,h7,?_,gH (by rw [← Wp];exact h7)⟩
 have h8:2^(bJ b-1)*2^sh≤V:=by rw [← hV];exact Nat.mul_le_mul_right _ h6
 rw [← Nat.pow_add,show bJ b-1+sh=63+64*(n-1) by omega,Nat.pow_add,← JX,show (2:Nat)^63=9223372036854775808 from by decide] at h8
 exact h8
theorem JZ (A lA n m:Nat) (hA:(limbs A).length=lA) (hm:max ((lA+1)/2) n+1=m):A<BB^(m-1):=by
 have h1:=mK A
 rw [hA] at h1
 refine Nat.lt_of_lt_of_le h1 ?_
 rw [Wp]
 exact Nat.pow_le_pow_right (by decide) (by omega)
theorem NF (vs:List Nat) (k V:Nat) (hl:vs.length=k+1) (hx:∀ x∈vs,x<18446744073709551616) (hv:bU vs=V) (h:9223372036854775808*BB^k≤V):9223372036854775808≤lb vs k:=by
 have h1:=qP vs k hl hx
 rw [hv,Nat.mul_comm] at h1
 have h2:9223372036854775808*BB^k<(lb vs k+1)*BB^k:=by omega
 have:=Nat.lt_of_mul_lt_mul_right h2
 omega
set_option maxRecDepth 100000 in
theorem Hq (w:World) (va vb:Value) (a b q r:Nat) (ha:Un w va a) (hb:Un w vb b) (hla:(limbs a).length≤1000) (hlb:(limbs b).length≤1000) (h2:2≤(limbs b).length) (hq:a/b=q) (hr:a%b=r) :
  Calls Tryz.prog 190 #[va,vb] w fun e w'=>(∃ x y,e = .returned (.tuple #[x,y])∧Un w' x q∧Un w' y r)∧Ext w w':=by
 obtain ⟨L,hL⟩:∃ L,(limbs b).length=L:=⟨_,rfl⟩
 obtain ⟨n,hn⟩:∃ n,(L+1)/2=n:=⟨_,rfl⟩
 obtain ⟨bl,hbl⟩:∃ bl,bJ b=bl:=⟨_,rfl⟩
 obtain ⟨sh,hsh⟩:∃ sh,64*n-bl=sh:=⟨_,rfl⟩
 obtain ⟨V0,hV⟩:∃ V0,b*2^sh=V0:=⟨_,rfl⟩
 obtain ⟨A0,hA⟩:∃ A0,a*2^sh=A0:=⟨_,rfl⟩
 rw [hL] at hlb h2
 obtain ⟨m1,m2,m3,m4,m5⟩:=JY b L n sh V0 hL h2 hn (by rw [hbl];exact hsh) hV
 rw [hbl] at m1
 obtain ⟨lA,hlA⟩:∃ lA,(limbs A0).length=lA:=⟨_,rfl⟩
 have adX:lA≤1002:=by rw [← hlA,← hA];exact Nat.le_trans (Ef a 1000 sh 2 hla (by omega)) (by omega)
 obtain ⟨h,hh⟩:∃ h,(lA+1)/2=h:=⟨_,rfl⟩
 obtain ⟨mx,hmx⟩:∃ mx,max h n=mx:=⟨_,rfl⟩
 obtain ⟨m,hm⟩:∃ m,mx+1=m:=⟨_,rfl⟩
 have aar:=JZ A0 lA n m hlA (by rw [hh,hmx];exact hm)
 obtain ⟨k,hk⟩:∃ k,m-n=k:=⟨_,rfl⟩
 have hkm:k+n=m:=by omega
 have hk1:1≤k:=by omega
 have hn1:1≤n:=by omega
 have hnb:n≤501:=by omega
 have hmb:m≤503:=by omega
 obtain ⟨n1,PT⟩:∃ n1,n=n1+1:=⟨n-1,by omega⟩
 have Eg:=Lib.hid (BK w vb b hb (by omega) (bl:Int) (by rw [hbl]))
 have aas:=Lib.hid (fun W v (h:Un W v b)=>Hr W v b (sh:Int) h (Int.natCast_nonneg _) (by omega) (by omega) V0 (by rw [Int.toNat_natCast];exact hV))
 have aat:=Lib.hid (fun W v (h:Un W v a)=>Hr W v a (sh:Int) h (Int.natCast_nonneg _) (by omega) (by omega) A0 (by rw [Int.toNat_natCast];exact hA))
 have HPv:=Lib.hid (fun W v (h:Un W v V0)=>zN W v (limbs V0) h (by omega) n (by omega) (by omega))
 have HPa:=Lib.hid (fun W v (h:Un W v A0)=>zN W v (limbs A0) h (by omega) m (by rw [hlA];omega) (by omega))
 have aau:Hid (∀ vs:List Nat,vs.length=n→(∀ x∈vs,x<18446744073709551616)→bU vs=V0→9223372036854775808≤lb vs n1):=fun vs e1 e2 e3=>NF vs n1 V0 (by omega) e2 e3 (by rw [show n1=n-1 by omega];exact m4)
 have aav:Hid (∀ o:List Nat,o.length=m→(∀ x∈o,x<18446744073709551616)→bU o=A0→NA V0 A0 n m k o (List.replicate k 0)):=fun o e1 e2 e3=>NA.start V0 A0 n m o k hkm (by omega) e1 e2 e3 aar (Nat.le_trans (Nat.le_mul_of_pos_left _ (by decide)) m4)
 have HLT:=Lib.hid m3
 obtain ⟨R0,hR0⟩:∃ R0,r*2^sh=R0:=⟨_,rfl⟩
 have Tv:Hid (∀ o ql,NA V0 A0 n m 0 o ql→bU ql=q∧bU (o.take n)=R0):=fun o ql h=>by
  obtain ⟨d1,d2⟩:=h.done m3 (by omega)
  rw [← hA,← hV,Nat.mul_div_mul_right _ _ (Nat.two_pow_pos sh),hq] at d1
  rw [← hA,← hV,Nat.mul_mod_mul_right,hr,hR0] at d2
  exact ⟨d1.symm,d2⟩
 have hrb:(limbs R0).length≤1002:=by
  rw [← hR0]
  refine Nat.le_trans (Ef r 1000 sh 2 ?_ (by omega)) (by omega)
  exact Nat.le_trans (jr (by rw [← hr];exact Nat.mod_le _ _)) hla
 have aaw:=Lib.hid (fun W v (h:Un W v R0)=>PU W v R0 (sh:Int) h (Int.natCast_nonneg _) (by omega) (by omega) r (by rw [Int.toNat_natCast,← hR0];exact Nat.mul_div_cancel _ (Nat.two_pow_pos sh)))
 have TW:=Lib.hid (And.intro PT (And.intro hkm (And.intro hk1 (And.intro hn1 (And.intro hnb hmb)))))
 have e1:((L:Int)+1)/2=(n:Int):=by omega
 have e2:((L:Int)+1).tdiv 2=(n:Int):=by rw [Int.tdiv_eq_ediv_of_nonneg (by omega)];exact e1
 have e3:(64:Int)*(n:Int)-(bl:Int)=(sh:Int):=by omega
 have e4:((lA:Int)+1)/2=(h:Int):=by omega
 have e5:((lA:Int)+1).tdiv 2=(h:Int):=by rw [Int.tdiv_eq_ediv_of_nonneg (by omega)];exact e4
 have e6:(if (h:Int)<(n:Int) then (n:Int) else (h:Int))=(mx:Int):=by split<;>omega
 have e7:(if h<n then (n:Int) else (h:Int))=(mx:Int):=by split<;>omega
 have e8:(mx:Int)+1=(m:Int):=by omega
 have e9:(m:Int)-(n:Int)=(k:Int):=by omega
 have HBD:=Lib.hid (And.intro hlb (And.intro adX (show bl≤64*501 by omega)))
 obtain ⟨Ab,cb,rfl,hcb⟩:=hb.shape
 rw [hL] at Eg
 have hb':Un w (.slice Ab (limbs b).length cb) b:=hb
 rw [hL] at hb' ⊢
 have HLA:=Lib.hid hlA
 have vD:=Ext.refl w
 clear hb hL hn hbl hsh hV hA hlA hh hmx hm hk m1 m3 m4 m5 aar hq hr hR0 PT hkm hk1 hn1 hcb
 go_enter Tryz.func190,Tryz.ntmps190
 go_wp2_with (fail)
 refine Eg.out.mono ?_
 rintro e w1 ⟨rfl,hB⟩
 replace hb':=U.below (U.dX hb') hB
 replace ha:=U.below (U.dX ha) hB
 replace vD:=vD.below hB
 clear hB Eg
 go_wp2_with (fail)
 refine (aas.out _ _ hb').mono ?_
 rintro e w2 ⟨v2,rfl,hv2,hB⟩
 replace ha:=U.below (U.dX ha) hB
 replace vD:=vD.below hB
 clear hB aas hb'
 go_wp2_with (fail)
 have hs2:=vD.size
 refine (HPv.out _ _ hv2).mono ?_
 rintro e w3 ⟨rfl,⟨vs,hov,hwv,hxv,hlv⟩,hB⟩
 rw [aJ] at hwv
 replace hov:=hov.uG hs2
 replace ha:=U.below (U.dX ha) hB
 replace vD:=vD.below hB
 clear hB HPv hv2
 generalize w2.heap.size=gv at *
 go_wp2_with (fail)
 refine (aat.out _ _ ha).mono ?_
 rintro e w4 ⟨va4,rfl,hva,hB⟩
 replace hov:=hov.ext hB
 replace vD:=vD.below hB
 clear hB aat ha
 obtain ⟨Aa,ca,rfl,hca⟩:=U.shape (U.dX hva)
 rw [HLA.out] at hva ⊢
 go_wp2_with (fail)
 have hs4:=vD.size
 have hvb:=hov.block
 refine (HPa.out _ _ hva).mono ?_
 rintro e w5 ⟨rfl,⟨o,hoa,hwa,hxa,hlo⟩,hB⟩
 rw [aJ] at hwa
 have hne1:gv≠w4.heap.size:=by omega
 replace hoa:=hoa.uG hs4
 replace hov:=hov.ext hB
 replace vD:=vD.below hB
 clear hB HPa hva hca hvb
 generalize w4.heap.size=gu at *
 have hST:=aav.out o hlo hxa hwa
 have HSS:=Lib.hid hST
 have htop:=aau.out vs hlv hxv hwv
 have hs5:=vD.size
 have hub:=hoa.block
 have hvb:=hov.block
 have hne2:gu≠w5.heap.size:=by omega
 have aiq:gv≠w5.heap.size:=by omega
 obtain ⟨i0,hi,hz0,hz1,hz2⟩:=info_parts EX
 have hkb:k≤503:=by have:=TW.out;omega
 have hmb:m≤503:=by have:=TW.out;omega
 have hnb:n≤501:=by have:=TW.out;omega
 have HTP:=Lib.hid htop
 have HWV:=Lib.hid hwv
 have HXV:=Lib.hid hxv
 clear hST htop hwv hxv hwa hxa aav aau
 go_wp2_with (at_make;refine wpList_make_full _ rfl _ _ 145 rfl w5.heap.size 111 i0 (.int .u64 0) 1 Tryz.underlying145 hi hz0 hz1 _ _ _ _ k rfl rfl (by omega) (by omega) (by rw [hz2];omega) (by unfold maxLen;omega) (Nat.le_refl _) ?_;intro w6 hown hgrow)
 have hoq:=Ow.zeros hown
 have mG:Ext w5 w6:=(Ext.refl w5).grown hgrow (Nat.le_refl _) (fun _ h=>by cases h)
 replace hoq:=hoq.uG hs5
 replace hoa:=hoa.ext mG
 replace hov:=hov.ext mG
 replace vD:=vD.below mG
 generalize w5.heap.size=gq at *
 have hgu:=hoa.block.1
 clear hown hgrow hi hz0 hz1 hz2 i0 mG hub hvb hs2 hs4 hs5
 go_wp2
 go_loopw [11] (fun t wr=>∃ (j:Nat) (z:Int) (o ql:List Nat),j≤k∧t = .int .i64 z∧z=(j:Int)-1∧Hid (NA V0 A0 n m j o ql)∧Ow wr w.heap.size (.slice (some ⟨gu,0,none⟩) m m) o∧Ow wr w.heap.size (.slice (some ⟨gq,0,none⟩) k k) ql∧Ow wr w.heap.size (.slice (some ⟨gv,0,none⟩) n n) vs∧Ext w wr) (fun t _=>(intOf t+1).toNat)
 case atStart=>exact ⟨k,_,_,_,Nat.le_refl _,rfl,rfl,HSS,hoa,hoq,hov,vD⟩
 case round =>
  clear hoa hoq hov vD HSS
  obtain ⟨j,z,o,ql,hj,rfl,hz,HO,hoa,hoq,hov,hE⟩:=hrel
  cases j with
  | zero =>
   obtain rfl:z = -1:=by omega
   obtain ⟨d1,d2⟩:=Tv.out o ql HO.out
   have hq0:=hoq.ZX HO.out.xq (gq+1) (by omega)
   have hlq:ql.length≤1000000:=by have:=HO.out.lq;omega
   have hu0:=(hoa.ZX HO.out.xo (gu+1) (by omega)).take (k:=n) (c':=m) (by have:=TW.out;omega) (by have:=TW.out;omega)
   have hun:(o.take n).length≤1000000:=by rw [List.length_take];omega
   have HU1:=Lib.hid (vC _ _ _ _ (V.below hq0 ((Ext.refl wr).drew)) hlq q d1)
   have HU2:=Lib.hid (fun W (h:V (gu+1) W (.slice (some ⟨gu,0,none⟩) n m) (o.take n))=>vC W _ _ _ h hun R0 d2)
   have hu1:=V.below hu0 ((Ext.refl wr).drew)
   have b1:(n:Int)≤(m:Int):=by have:=TW.out;omega
   have b2:n≤m:=by have:=TW.out;omega
   have b3:(0:Int)≤(n:Int):=Int.natCast_nonneg n
   clear d1 d2 hq0 hlq hun hu0 hoa hoq hov HO Tv hz HTP HWV HXV TW
   go_wp2_with (fail)
   go_region_held3 (fun X=>True)
    (first
     | exact trivial)
    (first
     | (go_at_call 226;((with_reducible refine HU1.out.mono ?_);rintro e wa ⟨⟨x1,rfl,hx1⟩,hB1⟩;have hu2:=hu1.below hB1))
     | (go_at_call 226;((with_reducible refine (HU2.out _ hu2).mono ?_);rintro e wb ⟨⟨x2,rfl,hx2⟩,hB2⟩;have TV:=U.below (U.dX hx1) hB2))
     | (go_at_call 145;((with_reducible refine (aaw.out _ _ hx2).mono ?_);rintro e wc ⟨x3,rfl,hx3,hB3⟩;have aax:=U.below TV hB3)))
   have HF:Hid (∃ x y,Ending.returned (.tuple #[x1,x3]) = .returned (.tuple #[x,y])∧Un wc x q∧Un wc y r):=⟨_,_,rfl,aax,hx3⟩
   have hEF:=((hE.drew.below hB1).below hB2).below hB3
   clear hx1 hx2 hx3 TV aax hB1 hB2 hB3 hu1 hu2 HU1 HU2 aaw hE
   go_wp2
   go_ret2
   exact ⟨HF.out,hEF⟩
  | succ j =>
   obtain rfl:z=(j:Int):=by omega
   obtain ⟨PT,hkm,hk1,hn1,-,-⟩:=TW.out
   obtain ⟨p1,p2,p3,p4⟩:=LM HO.out (by omega) HLT.out
   have aay:Ow wr w.heap.size (.slice (some ⟨gu,0,none⟩) m m) (Sg (o.take j) ((o.drop j).take (n+1)) ((o.drop j).drop (n+1))):=by rw [← PE];exact hoa
   have hV0:V gu wr (.slice (some ⟨gv,0,none⟩) n n) vs:=hov.ZX HXV.out gu hne1
   have aaz:=Lib.hid (Hg wr gu w.heap.size m m j (m-j) _ _ _ vs _ aay (fun x hx=>HO.out.xo x (List.mem_of_mem_drop (List.mem_of_mem_take hx))) p4 n n1 PT p1 hlv (by omega) (by omega) hV0 HTP.out (by rw [HWV.out];exact p2))
   have i1:(j:Int)+(n:Int)+1≤(m:Int):=by omega
   have i2:(j:Int)≤(j:Int)+(n:Int)+1:=by omega
   have i3:j≤m:=by omega
   have i4:j+n+1-j=n+1:=by omega
   have i5:((j:Int)+(n:Int)+1).toNat=j+n+1:=by omega
   have i6:j<k:=by omega
   have i7:j+1+n≤m:=by omega
   clear PT hkm hk1 hn1 p1 p2 p3 p4 aay hV0 hoa hz
   go_wp2_with (fail)
   refine aaz.out.mono ?_
   rintro e w7 ⟨⟨d,s',rfl,hd,hsl,hsx,Wm,hdv,aaA⟩,hB⟩
   have HSN:Hid (NA V0 A0 n m j (Sg (o.take j) s' ((o.drop j).drop (n+1))) (ql.set j d)):=HO.out.step i7 HLT.out d (bU s') s' hsl hsx hd (by rw [← HWV.out];exact Wm) rfl (by rw [← HWV.out];exact hdv)
   have hq2:=hoq.but hB (show gq≠gu by omega)
   have aaB:=hov.but hB (show gv≠gu by omega)
   have hf:=hq2.frozen j
   have hcz:=hq2.cell (j:=j) i6
   have hq3:=hq2.qO j d
   have TY:But gq w7 (w7.setCell ⟨gq,j,none⟩ (.int .u64 (d:Nat))):=(But.refl gq w7).setCell j _
   have ad1:=aaA.but TY (show gu≠gq by omega)
   have ad2:=aaB.but TY (show gv≠gq by omega)
   have hgq:=hq2.block.1
   have gF:=(hE.but hB hgu).setCell (p:=⟨gq,j,none⟩) hgq (.int .u64 (d:Nat))
   clear aaz hsl hsx Wm hdv aaA hB hq2 aaB TY hoq hov hE HO hd
   go_wp2
   go_roundw
   case rel=>exact ⟨j,_,_,_,by omega,rfl,rfl,HSN,ad1,hq3,ad2,gF⟩
   case measure=>simp [intOf]
end Go.Proofs.YtgcieamfidoaoaaGreatDoor
/- Powers; live questions. -/
namespace Go.Proofs.YtgcieamfidoaoaaGreatDoor
open Go.RowKit
theorem lG (x:Nat) (h0:x≠0) (h:x<4294967296):limbs x=[x]:=by
 rw [fZ h0,Nat.mod_eq_of_lt h,Nat.div_eq_of_lt h,aX]
end Go.Proofs.YtgcieamfidoaoaaGreatDoor
/- Live questions, whose answers are fixed. -/
namespace Go.Proofs.YtgcieamfidoaoaaGreatDoor
open Go.RowKit
theorem uI (w:World) (N:Nat) (hN:w.heap.size=N) (x:Nat) (h0:x≠0) (h:x<4294967296):Un (w.alloc (.cells #[.int .u32 (x:Nat)] 57)) (.slice (some ⟨N,0,none⟩) 1 1) x:=by
 subst hN
 have:=Hu w [x] (by simpa using h) (by simp)
 rw [Un,lG x h0 h]
 exact this
theorem ad5 {x:Nat} (h:x<4294967296):(limbs x).length≤398:=Nat.le_trans (kN (k:=1) (by unfold LB;omega)) (by decide)
end Go.Proofs.YtgcieamfidoaoaaGreatDoor
/- Division by school, and whatever goes to it. -/
namespace Go.Proofs.YtgcieamfidoaoaaGreatDoor
open Go.RowKit
theorem NG {b:Nat} (h:(limbs b).length=1):b<4294967296∧b≠0∧lb (limbs b) 0=b:=by
 have h1:=dU (show (limbs b).length≤1 by omega)
 rw [Nat.pow_one] at h1
 have h0:b≠0:=by
  intro e;rw [e,aX] at h;simp at h
 refine ⟨h1,h0,?_⟩
 rw [oK,Nat.pow_zero,Nat.div_one,Nat.mod_eq_of_lt h1]
theorem Ht {b:Nat} (h:b≠0):0<(limbs b).length:=by
 rcases Nat.eq_zero_or_pos (limbs b).length with e | e
 · exact absurd (xw.1 (List.length_eq_zero_iff.1 e)) h
 · exact e
def Dv (w w':World) (e:Ending) (q r:Nat):Prop:=(∃ x y,e = .returned (.tuple #[x,y,.int .i64 0])∧Un w' x q∧Un w' y r)∧Ext w w'
set_option maxRecDepth 100000 in
theorem PV (w:World) (va vb:Value) (a b q r:Nat) (ha:Un w va a) (hb:Un w vb b) (hla:(limbs a).length≤1000) (hlb:(limbs b).length≤1000) (h0:b≠0) (hq:a/b=q) (hr:a%b=r) :
  Calls Tryz.prog 168 #[va,vb] w fun e w'=>Dv w w' e q r:=by
 unfold Dv
 have hnz:=Ht h0
 obtain ⟨Ab,cb,rfl,hcb⟩:=U.shape (U.dX hb)
 obtain ⟨L,hL⟩:∃ L,(limbs b).length=L:=⟨_,rfl⟩
 obtain ⟨k,hk⟩:∃ k,bN (a:Int) (b:Int)=k:=⟨_,rfl⟩
 have J2:=Lib.hid (jv w va _ a b ha hb k hk)
 have hb2:=hb
 rw [hL] at hnz hlb hb2 J2 ⊢
 have hL0:((L:Int)==0)=false:=by rw [beq_eq_false_iff_ne];omega
 have ad3:¬ L=0:=by omega
 have vD:=Ext.refl w
 rcases Nat.lt_or_ge a b with hlt | hge
 · have hq0:q=0:=by rw [← hq];exact Nat.div_eq_of_lt hlt
   have hr0:r=a:=by rw [← hr];exact Nat.mod_eq_of_lt hlt
   have hk1:k = -1:=by rw [← hk];exact lV (by omega)
   subst hq0 hr0 hk1
   clear hq hr hk hlt hb hb2 hL hcb hla hlb
   go_enter Tryz.func168,Tryz.ntmps168
   go_wp2_with (fail)
   refine J2.out.mono ?_
   rintro e w1 ⟨rfl,hB⟩
   replace ha:=U.below (U.dX ha) hB
   replace vD:=vD.below hB
   have HF:Hid (∃ x y,Ending.returned (.tuple #[.slice none 0 0,va,.int .i64 0]) = .returned (.tuple #[x,y,.int .i64 0])∧Un w1 x 0∧Un w1 y r):=⟨_,_,rfl,J3 _,ha⟩
   clear hB J2 ha
   go_wp2
   go_ret3
   exact ⟨HF.out,vD⟩
 · have hk1:¬ k<0:=by
    rw [← hk]
    rcases Nat.lt_or_ge b a with h | h
    · rw [ni (by omega)];decide
    · rw [show a=b by omega,qQ];decide
   have hk2:decide (k<0)=false:=by rw [decide_eq_false_iff_not];exact hk1
   by_cases h1:L=1
   · obtain ⟨b1,b2,b3⟩:=NG (hL.trans h1)
     have hS:=Lib.hid (fun W (h:Un W va a)=>Ho W va a b h (by omega) b1 h0 q r hq hr)
     have hL1:((L:Int)==1)=true:=by rw [beq_iff_eq];omega
     obtain ⟨ad,rfl,hbk,hcell⟩:∃ ad,Ab=some ad∧ad.block<w.heap.size∧w.cell? ad=some (.int .u32 (b:Nat)):=by
      obtain ⟨A',c',hv,_,_,hr'⟩:=hb
      obtain ⟨ad,e1,e2,e3⟩:=hr' (by omega)
      injection hv with hv1
      have:=e3 0 (by omega)
      rw [kQ,b3] at this
      exact ⟨ad,by rw [hv1,e1],e2,this⟩
     have hrb:r<4294967296:=by rw [← hr];exact Nat.lt_trans (Nat.mod_lt _ (by omega)) b1
     have HRB:=Lib.hid hrb
     subst h1
     clear hq hr hk hge b1 b2 b3 hb hb2 hL hla hlb h0 hrb ad3
     go_enter Tryz.func168,Tryz.ntmps168
     go_wp2_with (fail)
     refine J2.out.mono ?_
     rintro e w1 ⟨rfl,hB⟩
     replace ha:=U.below (U.dX ha) hB
     replace vD:=vD.below hB
     have hcell1:=(hB.cell (p:=ad) hbk).trans hcell
     clear hB J2 hcell
     go_wp2_with (fail)
     refine (hS.out _ ha).mono ?_
     rintro e w2 ⟨⟨x,rfl,hx⟩,hB⟩
     replace vD:=vD.below hB
     have HU:Hid (U (w2.alloc (.cells #[.int .u32 (r:Nat)] 57)) (.slice (some ⟨w2.heap.size,0,none⟩) 1 1) [r]):=Hu w2 [r] (by simpa using HRB.out) (by simp)
     have HMK:Hid (∀ W v,U W v [r]→Calls Tryz.prog 92 #[v] W fun e w'=>∃ u,e = .returned u∧Un w' u r∧Ext W w'):=fun W v h=>yV W v [r] h r (by simp [val])
     clear hB hS hcell1 ha
     go_wp2_with (fail)
     refine (HMK.out _ _ HU.out).mono ?_
     rintro e w3 ⟨y,rfl,hy,hB⟩
     have HF:Hid (∃ x' y',Ending.returned (.tuple #[x,y,.int .i64 0]) = .returned (.tuple #[x',y',.int .i64 0])∧Un w3 x' q∧Un w3 y' r):=⟨_,_,rfl,U.below (U.alloc (U.dX hx) _) hB,hy⟩
     have hEF:=(vD.alloc _).below hB
     clear hx hy hB HU HMK vD
     go_wp2
     go_ret3
     exact ⟨HF.out,hEF⟩
   · have hL1:((L:Int)==1)=false:=by rw [beq_eq_false_iff_ne];omega
     have hW:=Lib.hid (fun W (h:Un W va a) (h':Un W (.slice Ab L cb) b)=>Hq W va _ a b q r h h' hla (by omega) (by omega) hq hr)
     clear hq hr hk hge hb hL hla hlb h0
     go_enter Tryz.func168,Tryz.ntmps168
     go_wp2_with (fail)
     refine J2.out.mono ?_
     rintro e w1 ⟨rfl,hB⟩
     replace ha:=U.below (U.dX ha) hB
     replace hb2:=U.below (U.dX hb2) hB
     replace vD:=vD.below hB
     clear hB J2
     go_wp2_with (fail)
     refine (hW.out _ ha hb2).mono ?_
     rintro e w2 ⟨⟨x,y,rfl,hx,hy⟩,hB⟩
     replace vD:=vD.below hB
     have HF:Hid (∃ x' y',Ending.returned (.tuple #[x,y,.int .i64 0]) = .returned (.tuple #[x',y',.int .i64 0])∧Un w2 x' q∧Un w2 y' r):=⟨_,_,rfl,hx,hy⟩
     clear hx hy hB hW ha hb2
     go_wp2
     go_ret3
     exact ⟨HF.out,vD⟩
set_option maxRecDepth 100000 in
theorem sH (w:World) (va vb:Value) (a b q r:Nat) (ha:Un w va a) (hb:Un w vb b) (hla:(limbs a).length≤1000) (hlb:(limbs b).length≤1000) (h0:b≠0) (hq:a/b=q) (hr:a%b=r) :
  Calls Tryz.prog 143 #[va,vb] w fun e w'=>Dv w w' e q r:=by
 have hS:=Lib.hid (PV w va vb a b q r ha hb hla hlb h0 hq hr)
 unfold Dv at *
 obtain ⟨Aa,ca,rfl,hca⟩:=U.shape (U.dX ha)
 obtain ⟨Ab,cb,rfl,hcb⟩:=U.shape (U.dX hb)
 clear ha hb hq hr h0
 generalize (limbs a).length=la at *
 generalize (limbs b).length=lb_ at *
 obtain ⟨d,hd⟩:∃ d:Int,(la:Int)-(lb_:Int)=d:=⟨_,rfl⟩
 obtain ⟨mn,hmn⟩:∃ mn:Int,(if d<(lb_:Int) then d else (lb_:Int))=mn:=⟨_,rfl⟩
 have hm1:decide ((1600:Int)≤mn)=false:=by rw [decide_eq_false_iff_not];split at hmn<;>omega
 have hm2:¬ (1600:Int)≤mn:=by split at hmn<;>omega
 have HA:=Lib.hid hca
 clear hca hcb
 go_enter Tryz.func143,Tryz.ntmps143
 go_wp2_with (fail)
 refine hS.out.mono ?_
 rintro e w1 ⟨⟨x,y,rfl,hx,hy⟩,hB⟩
 have HF:Hid (∃ x' y',Ending.returned (.tuple #[x,y,.int .i64 0]) = .returned (.tuple #[x',y',.int .i64 0])∧Un w1 x' q∧Un w1 y' r):=⟨_,_,rfl,hx,hy⟩
 clear hx hy hS
 go_wp2
 go_ret3
 exact ⟨HF.out,hB⟩
theorem mulN (w:World) (va vb:Value) (n m k:Nat) (ha:Un w va n) (hb:Un w vb m) (hn:(limbs n).length≤78) (hm:(limbs m).length≤78) (hk:n*m=k) :
  Calls Tryz.prog 94 #[va,vb] w fun e w'=>∃ u,e = .returned u∧Un w' u k∧Ext w w':=by
 refine (Wq w va vb _ _ ha hb (by omega) (by omega) (by omega)).mono ?_
 rw [aJ,aJ,hk]
 rintro e w' ⟨⟨u,h1,h2⟩,h3⟩
 exact ⟨u,h1,h2,h3⟩
end Go.Proofs.YtgcieamfidoaoaaGreatDoor
/- Reciprocals. -/
namespace Go.Proofs.YtgcieamfidoaoaaGreatDoor
open Go.RowKit
theorem uH (w:World):Un (w.alloc (.cells #[.int .u32 1] 57)) (.slice (some ⟨w.heap.size,0,none⟩) 1 1) 1:=uI w _ rfl 1 (by decide) (by decide)
theorem Hw:(limbs 1).length≤1000000000:=Nat.le_trans (ad5 (by decide)) (by decide)
end Go.Proofs.YtgcieamfidoaoaaGreatDoor
/- The document's own Add. -/
namespace Go.Proofs.YtgcieamfidoaoaaGreatDoor
open Go.RowKit
attribute [local go_sem ↓] oL
attribute [local go_sem] iy
def pv (xs:List Nat) (k:Nat):Nat:=val ((List.range k).map fun j=>lb xs j)
theorem Wj (xs:List Nat):pv xs 0=0:=rfl
theorem yK (xs:List Nat) (k:Nat):pv xs (k+1)=pv xs k+lb xs k*4294967296^k:=by
 unfold pv
 rw [List.range_succ,List.map_append,val_append]
 simp only [List.map_cons,List.map_nil,val,Nat.mul_zero,Nat.add_zero,List.length_map,List.length_range]
 rw [Nat.mul_comm]
theorem DC (xs:List Nat) (L:Nat) (h:xs.length≤L):pv xs L=val xs:=pF xs L h
theorem Tt (xs:List Nat) (k:Nat) (h:∀ x∈xs,x<4294967296):pv xs k<4294967296^k:=by
 have:=mQ ((List.range k).map fun j=>lb xs j) (by intro x hx;obtain ⟨j,_,rfl⟩:=List.mem_map.1 hx;exact dz h j)
 simpa [pv] using this
theorem DD (o:List Nat) (x:Nat):val (o++[x])=val o+x*4294967296^o.length:=by
 rw [val_append];simp only [val,Nat.mul_zero,Nat.add_zero];rw [Nat.mul_comm]
structure wm (xs ys:List Nat) (k:Nat) (o:List Nat) (c:Nat):Prop where
 len:o.length=k
 lt:∀ x∈o,x<4294967296
 carry:c≤1
 val_eq:val o+c*4294967296^k=pv xs k+pv ys k
theorem wm.start (xs ys:List Nat):wm xs ys 0 [] 0:=⟨rfl,by simp,by omega,rfl⟩
theorem wm.step {xs ys:List Nat} {k:Nat} {o:List Nat} {c:Nat} (h:wm xs ys k o c) (hx:∀ x∈xs,x<4294967296) (hy:∀ x∈ys,x<4294967296) :
  wm xs ys (k+1) (o++[(lb xs k+lb ys k+c)%4294967296]) ((lb xs k+lb ys k+c)/4294967296):=by
 have h1:=dz hx k
 have h2:=dz hy k
 have h3:=h.carry
 refine ⟨by simp [h.len],rP h.lt (Nat.mod_lt _ (by decide)),by omega,?_⟩
 rw [DD,yK,yK,h.len,Nat.pow_succ]
 have e:=h.val_eq
 generalize 4294967296^k=B at *
 generalize lb xs k=p at *
 generalize lb ys k=q at *
 have e4:(p+q+c)*B=(p+q+c)%4294967296*B+(p+q+c)/4294967296*4294967296*B:=by
  conv=>lhs;rw [show p+q+c=(p+q+c)%4294967296+(p+q+c)/4294967296*4294967296 by omega]
  rw [Nat.add_mul]
 rw [Nat.add_mul,Nat.add_mul] at e4
 have e5:(p+q+c)/4294967296*(B*4294967296)=(p+q+c)/4294967296*4294967296*B:=by
  rw [Nat.mul_comm B 4294967296,← Nat.mul_assoc]
 rw [e5]
 omega
theorem wm.done {xs ys:List Nat} {k:Nat} {o:List Nat} {c:Nat} (h:wm xs ys (k+1) o c) (hx:∀ x∈xs,x<4294967296) (hy:∀ x∈ys,x<4294967296) (h1:xs.length≤k) (h2:ys.length≤k) :
  val o=val xs+val ys:=by
 have e:=h.val_eq
 have a1:=Tt xs k hx
 have a2:=Tt ys k hy
 rw [DC xs _ (by omega)] at e a1
 rw [DC ys _ (by omega)] at e a2
 have h3:=h.carry
 rw [Nat.pow_succ] at e
 have hB:0<4294967296^k:=Nat.pow_pos (by decide)
 generalize 4294967296^k=B at *
 have:c=0∨c=1:=by omega
 rcases this with rfl | rfl<;>omega
theorem lH {w0 w:World} (hB:Below w0.heap.size w0 w) {v:Value} {o:List Nat} (hown:Own w w0.heap.size v o) (z:Int) (x:Nat) (hz:z=(x:Int)) (hx:x<4294967296) (hlen:o.length+1≤35184372088832) :
  ∃ v' w',(Builtin.append_ #[24,24] 24 #[v,.slice (some ⟨w.heap.size,0,none⟩) 1 1]).run Tryz.prog (w.alloc (.cells #[.int .u32 z] 57)) = .ok v' w'∧Own w' w0.heap.size v' (o++[x])∧Below w0.heap.size w0 w':=by
 subst hz
 have hu:U (w.alloc (.cells #[.int .u32 (x:Int)] 57)) (.slice (some ⟨w.heap.size,0,none⟩) 1 1) [x]:=Hu w [x] (by simpa using hx) (by simp)
 have hB1:=hB.alloc hB.size (.cells #[.int .u32 (x:Int)] 57)
 obtain ⟨v',w',hrun,ho,hg⟩:=qW _ w0.heap.size _ o (World.ownsRow.alloc hown _) _ _ hu (by simpa using hlen) hB1.size
 exact ⟨v',w',hrun,ho,hB1.grown hg hB1.size (fun j e=>(World.ownsRow.lt hown j e).1)⟩
set_option maxRecDepth 100000 in
theorem LF (w:World) (v u:Value) (xs ys:List Nat) (h:U w v xs) (g:U w u ys) (hl:xs.length≤100000000) (hl2:ys.length≤100000000) :
  Calls Tryz.prog 77 #[v,u] w fun e w'=>(∃ z,e = .returned z∧U w' z (limbs (val xs+val ys)))∧Below w.heap.size w w':=by
 obtain ⟨A,c,rfl,⟨hc,hm⟩,hx,hr⟩:=id h
 obtain ⟨A2,c2,rfl,⟨hc2,hm2⟩,hx2,hr2⟩:=id g
 clear hr hr2
 go_enter Tryz.func77,Tryz.ntmps77
 go_wp2_with (fail)
 have hown0:Own (w.alloc (.cells #[] 57)) w.heap.size (.slice (some ⟨w.heap.size,0,none⟩) 0 0) []:=World.ownsRow_lit w #[] 0 (Nat.le_refl _) (Nat.zero_le _) rfl
 have hB0:Below w.heap.size w (w.alloc (.cells #[] 57)):=(Below.refl _ _).alloc (Nat.le_refl _) _
 go_loopw [5,6,7] (fun s cv i wr=>∃ (k cy:Nat) (o:List Nat),k≤max xs.length ys.length+1∧i = .int .i64 k∧cv = .int .u64 cy∧Hid (wm xs ys k o cy)∧Own wr w.heap.size s o∧Below w.heap.size w wr) (fun _ _ i _=>max xs.length ys.length+2-(intOf i).toNat)
 case atStart=>exact ⟨0,0,[],Nat.zero_le _,rfl,rfl,wm.start xs ys,hown0,hB0⟩
 case round =>
  clear hown0 hB0
  obtain ⟨k,cy,o,hk,rfl,rfl,HO,hown,hB⟩:=hrel
  by_cases hd1:k≤xs.length
  · have h1:=dz hx k
    have h2:=dz hx2 k
    have h3:=HO.out.carry
    have hlen:=HO.out.len
    obtain ⟨x1,hx1⟩:∃ x1,(lb xs k+lb ys k+cy)%4294967296=x1:=⟨_,rfl⟩
    obtain ⟨c1,hc1⟩:∃ c1,(lb xs k+lb ys k+cy)/4294967296=c1:=⟨_,rfl⟩
    have NH:Hid (wm xs ys (k+1) (o++[x1]) c1):=by rw [Hid,← hx1,← hc1];exact HO.out.step hx hx2
    obtain ⟨v',w',hrun,hown',hB'⟩:=lH hB hown ((((lb xs k:Nat):Int)+((lb ys k:Nat):Int)+(cy:Int))%4294967296) x1 (by rw [← hx1];omega) (by rw [← hx1];exact Nat.mod_lt _ (by decide)) (by omega)
    obtain ⟨t1,t2,t3⟩:=jc hrun
    have hk2:k+1≤max xs.length ys.length+1:=by omega
    have NI:Hid ((((lb xs k:Nat):Int)+((lb ys k:Nat):Int)+(cy:Int))/4294967296=(c1:Int)):=by rw [Hid,← hc1];omega
    clear hrun hx1 hc1 hlen
    go_wp2_with (fail)
    refine (dB _ _ xs _ k rfl (h.below hB)).mono ?_
    rintro e w' ⟨rfl,rfl⟩
    go_wp2_with (fail)
    refine (dB _ _ ys _ k rfl (g.below hB)).mono ?_
    rintro e w' ⟨rfl,rfl⟩
    go_wp2_with (fail)
    go_roundw
    case rel=>exact ⟨k+1,c1,_,hk2,by go_num,by rw [NI.out],NH,hown',hB'⟩
    case measure=>simp [intOf];omega
  · by_cases hd2:k≤ys.length
    · have h1:=dz hx k
      have h2:=dz hx2 k
      have h3:=HO.out.carry
      have hlen:=HO.out.len
      obtain ⟨x1,hx1⟩:∃ x1,(lb xs k+lb ys k+cy)%4294967296=x1:=⟨_,rfl⟩
      obtain ⟨c1,hc1⟩:∃ c1,(lb xs k+lb ys k+cy)/4294967296=c1:=⟨_,rfl⟩
      have NH:Hid (wm xs ys (k+1) (o++[x1]) c1):=by rw [Hid,← hx1,← hc1];exact HO.out.step hx hx2
      obtain ⟨v',w',hrun,hown',hB'⟩:=lH hB hown ((((lb xs k:Nat):Int)+((lb ys k:Nat):Int)+(cy:Int))%4294967296) x1 (by rw [← hx1];omega) (by rw [← hx1];exact Nat.mod_lt _ (by decide)) (by omega)
      obtain ⟨t1,t2,t3⟩:=jc hrun
      have hk2:k+1≤max xs.length ys.length+1:=by omega
      have NI:Hid ((((lb xs k:Nat):Int)+((lb ys k:Nat):Int)+(cy:Int))/4294967296=(c1:Int)):=by rw [Hid,← hc1];omega
      clear hrun hx1 hc1 hlen
      go_wp2_with (fail)
      refine (dB _ _ xs _ k rfl (h.below hB)).mono ?_
      rintro e w' ⟨rfl,rfl⟩
      go_wp2_with (fail)
      refine (dB _ _ ys _ k rfl (g.below hB)).mono ?_
      rintro e w' ⟨rfl,rfl⟩
      go_wp2_with (fail)
      go_roundw
      case rel=>exact ⟨k+1,c1,_,hk2,by go_num,by rw [NI.out],NH,hown',hB'⟩
      case measure=>simp [intOf];omega
    · have hlen:=HO.out.len
      obtain ⟨j,rfl⟩:∃ j,k=j+1:=⟨k-1,by omega⟩
      have HV:Hid (val o=val xs+val ys):=HO.out.done hx hx2 (by omega) (by omega)
      have hu:=hown.BJ HO.out.lt (by omega)
      have hol:o.length≤1000000000:=by omega
      clear hlen
      go_wp2_with (fail)
      refine (dZ _ _ _ hu hol).mono ?_
      rintro e w' ⟨⟨z,rfl,hz⟩,hB2⟩
      rw [HV.out] at hz
      replace hB:=Below.trans hB (Below.mono hB2 hB.size)
      go_wp2
      go_ret
      exact ⟨⟨_,rfl,hz⟩,hB⟩
end Go.Proofs.YtgcieamfidoaoaaGreatDoor
/- The document's own Sub. -/
namespace Go.Proofs.YtgcieamfidoaoaaGreatDoor
open Go.RowKit
attribute [local go_sem ↓] oL
attribute [local go_sem] iy
structure yY (xs ys:List Nat) (k:Nat) (o:List Nat) (c:Nat):Prop where
 len:o.length=k
 lt:∀ x∈o,x<4294967296
 carry:c≤1
 val_eq:val o+pv ys k=pv xs k+c*4294967296^k
theorem yY.start (xs ys:List Nat):yY xs ys 0 [] 0:=⟨rfl,by simp,by omega,rfl⟩
theorem yY.step {xs ys:List Nat} {k:Nat} {o:List Nat} {c:Nat} (h:yY xs ys k o c) (hx:∀ x∈xs,x<4294967296) (hy:∀ x∈ys,x<4294967296) :
  yY xs ys (k+1) (o++[(4294967296+lb xs k-lb ys k-c)%4294967296]) (1-(4294967296+lb xs k-lb ys k-c)/4294967296):=by
 have h1:=dz hx k
 have h2:=dz hy k
 have h3:=h.carry
 refine ⟨by simp [h.len],rP h.lt (Nat.mod_lt _ (by decide)),by omega,?_⟩
 rw [DD,yK,yK,h.len,Nat.pow_succ]
 have e:=h.val_eq
 generalize 4294967296^k=B at *
 generalize lb xs k=p at *
 generalize lb ys k=q at *
 obtain ⟨d,hd⟩:∃ d,(4294967296+p-q-c)%4294967296=d:=⟨_,rfl⟩
 obtain ⟨f,hf⟩:∃ f,1-(4294967296+p-q-c)/4294967296=f:=⟨_,rfl⟩
 have e3:d+q+c=p+f*4294967296:=by omega
 rw [hd,hf]
 have e4:(d+q+c)*B=(p+f*4294967296)*B:=by rw [e3]
 rw [Nat.add_mul,Nat.add_mul,Nat.add_mul] at e4
 have e5:f*(B*4294967296)=f*4294967296*B:=by
  rw [Nat.mul_comm B 4294967296,← Nat.mul_assoc]
 rw [e5]
 omega
theorem yY.done {xs ys:List Nat} {o:List Nat} {c:Nat} (h:yY xs ys xs.length o c) (hl:ys.length≤xs.length) (hge:val ys≤val xs):val o=val xs-val ys:=by
 have e:=h.val_eq
 rw [DC xs _ (Nat.le_refl _),DC ys _ hl] at e
 have hlt:=mQ o h.lt
 rw [h.len] at hlt
 have hc:=h.carry
 generalize 4294967296^xs.length=B at *
 have:c=0∨c=1:=by omega
 rcases this with rfl | rfl<;>omega
set_option maxRecDepth 100000 in
theorem LG (w:World) (v u:Value) (n m:Nat) (h:Un w v n) (g:Un w u m) (hl:(limbs n).length≤100000000) (hl2:(limbs m).length≤100000000) (b:Bool) (hb:decide (m≤n)=b) (d:Nat) (hd:n-m=d) :
  Calls Tryz.prog 85 #[v,u] w fun e w'=>(∃ z,e = .returned (.tuple #[z,.bool b])∧Un w' z d)∧Below w.heap.size w w':=by
 obtain ⟨A,c,rfl,⟨hc,hm⟩,hx,hr⟩:=id h
 obtain ⟨A2,c2,rfl,⟨hc2,hm2⟩,hx2,hr2⟩:=id g
 clear hr hr2
 rcases Nat.lt_or_ge n m with hlt | hge
 · have HF:Hid (bN (val (limbs n):Nat) (val (limbs m):Nat) = -1):=by rw [Hid,aJ,aJ];exact lV (Int.ofNat_lt.2 hlt)
   obtain rfl:d=0:=by omega
   obtain rfl:b=false:=by rw [← hb,decide_eq_false_iff_not];omega
   clear hb hd hlt
   go_enter Tryz.func85,Tryz.ntmps85
   go_wp2_with (fail)
   refine (oM _ _ _ _ _ h g (by omega) (by omega)).mono ?_
   rintro e w' ⟨rfl,rfl⟩
   rw [HF.out]
   go_wp2
   go_ret2
   exact ⟨⟨_,rfl,J3 _⟩,Below.refl _ _⟩
 · have HF:Hid (0≤bN (val (limbs n):Nat) (val (limbs m):Nat)):=by
    rw [Hid,aJ,aJ]
    rcases Nat.lt_or_ge m n with h1 | h1
    · rw [ni (Int.ofNat_lt.2 h1)];decide
    · obtain rfl:n=m:=by omega
      rw [qQ];decide
   obtain rfl:b=true:=by rw [← hb,decide_eq_true_iff];omega
   have HD:=Lib.hid hd
   have HG:=Lib.hid hge
   have hll:=jr hge
   clear hb hd hge
   obtain ⟨K,hK⟩:∃ K,bN (val (limbs n):Nat) (val (limbs m):Nat)=K:=⟨_,rfl⟩
   have hK0:0≤K:=by rw [← hK];exact HF.out
   clear HF
   go_enter Tryz.func85,Tryz.ntmps85
   go_wp2_with (fail)
   refine (oM _ _ _ _ _ h g (by omega) (by omega)).mono ?_
   rintro e w' ⟨rfl,rfl⟩
   rw [hK]
   clear hK
   go_wp2_with (fail)
   have hown0:Own (w.alloc (.cells #[] 57)) w.heap.size (.slice (some ⟨w.heap.size,0,none⟩) 0 0) []:=World.ownsRow_lit w #[] 0 (Nat.le_refl _) (Nat.zero_le _) rfl
   have hB0:Below w.heap.size w (w.alloc (.cells #[] 57)):=(Below.refl _ _).alloc (Nat.le_refl _) _
   go_loopw [6,7,8] (fun s cv i wr=>∃ (k cy:Nat) (o:List Nat),k≤(limbs n).length∧i = .int .i64 k∧cv = .int .u64 cy∧Hid (yY (limbs n) (limbs m) k o cy)∧Own wr w.heap.size s o∧Below w.heap.size w wr) (fun _ _ i _=>(limbs n).length-(intOf i).toNat)
   case atStart=>exact ⟨0,0,[],Nat.zero_le _,rfl,rfl,yY.start _ _,hown0,hB0⟩
   case round =>
    clear hown0 hB0
    obtain ⟨k,cy,o,hk,rfl,rfl,HO,hown,hB⟩:=hrel
    by_cases hd1:k<(limbs n).length
    · have h1:=dz hx k
      have h2:=dz hx2 k
      have h3:=HO.out.carry
      have hlen:=HO.out.len
      obtain ⟨x1,hx1⟩:∃ x1,(4294967296+lb (limbs n) k-lb (limbs m) k-cy)%4294967296=x1:=⟨_,rfl⟩
      obtain ⟨c1,hc1⟩:∃ c1,1-(4294967296+lb (limbs n) k-lb (limbs m) k-cy)/4294967296=c1:=⟨_,rfl⟩
      have NH:Hid (yY (limbs n) (limbs m) (k+1) (o++[x1]) c1):=by rw [Hid,← hx1,← hc1];exact HO.out.step hx hx2
      obtain ⟨v',w',hrun,hown',hB'⟩:=lH hB hown ((4294967296+((lb (limbs n) k:Nat):Int)-((lb (limbs m) k:Nat):Int)-(cy:Int))%4294967296) x1 (by rw [← hx1];omega) (by rw [← hx1];exact Nat.mod_lt _ (by decide)) (by omega)
      obtain ⟨t1,t2,t3⟩:=jc hrun
      have NI:Hid (1-(4294967296+((lb (limbs n) k:Nat):Int)-((lb (limbs m) k:Nat):Int)-(cy:Int))/4294967296=(c1:Int)):=by rw [Hid,← hc1];omega
      clear hrun hx1 hc1 hlen
      go_wp2_with (fail)
      refine (dB _ _ (limbs n) _ k rfl (U.below h hB)).mono ?_
      rintro e w' ⟨rfl,rfl⟩
      go_wp2_with (fail)
      refine (dB _ _ (limbs m) _ k rfl (U.below g hB)).mono ?_
      rintro e w' ⟨rfl,rfl⟩
      go_wp2_with (fail)
      go_roundw
      case rel=>exact ⟨k+1,c1,_,by omega,by go_num,by rw [NI.out],NH,hown',hB'⟩
      case measure=>simp [intOf];omega
    · have hlen:=HO.out.len
      obtain rfl:k=(limbs n).length:=by omega
      have HV:Hid (val o=d):=by rw [Hid,HO.out.done hll (by rw [aJ,aJ];exact HG.out),aJ,aJ];exact HD.out
      have hu:=hown.BJ HO.out.lt (by omega)
      have hol:o.length≤1000000000:=by omega
      clear hlen
      go_wp2_with (fail)
      refine (dZ _ _ _ hu hol).mono ?_
      rintro e w' ⟨⟨z,rfl,hz⟩,hB2⟩
      have hz2:Un w' z d:=by rw [← HV.out];exact hz
      replace hB:=Below.trans hB (Below.mono hB2 hB.size)
      clear hz
      go_wp2
      go_ret2
      exact ⟨⟨_,rfl,hz2⟩,hB⟩
end Go.Proofs.YtgcieamfidoaoaaGreatDoor
/- The document's own Shl. -/
namespace Go.Proofs.YtgcieamfidoaoaaGreatDoor
open Go.RowKit
attribute [local go_sem ↓] oL
attribute [local go_sem] iy
structure BL (xs:List Nat) (q P k:Nat) (o:List Nat) (c:Nat):Prop where
 len:o.length=q+k
 lt:∀ x∈o,x<4294967296
 carry:c<P
 val_eq:val o+c*4294967296^(q+k)=pv xs k*P*4294967296^q
theorem BL.start (xs:List Nat) (q P:Nat) (hP:0<P):BL xs q P 0 (List.replicate q 0) 0 :=
 ⟨by simp,by intro x hx;have:=List.eq_of_mem_replicate hx;omega,hP,by rw [dM,Wj];simp⟩
theorem BL.step {xs:List Nat} {q P k:Nat} {o:List Nat} {c:Nat} (h:BL xs q P k o c) (hx:∀ x∈xs,x<4294967296) :
  BL xs q P (k+1) (o++[(lb xs k*P+c)%4294967296]) ((lb xs k*P+c)/4294967296):=by
 have h1:=dz hx k
 have h3:=h.carry
 have h4:lb xs k*P+c<4294967296*P:=by
  have:=Nat.mul_le_mul_right P (show lb xs k+1≤4294967296 by omega)
  rw [Nat.add_mul] at this;omega
 refine ⟨by simp [h.len];omega,rP h.lt (Nat.mod_lt _ (by decide)),by rw [Nat.div_lt_iff_lt_mul (by decide),Nat.mul_comm P];exact h4,?_⟩
 rw [DD,yK,h.len,← Nat.add_assoc,Nat.pow_succ,Nat.pow_add 4294967296 q k]
 have e:=h.val_eq
 rw [Nat.pow_add] at e
 generalize 4294967296^k=B at *
 generalize 4294967296^q=C at *
 obtain ⟨X,hX⟩:∃ X,lb xs k*P+c=X:=⟨_,rfl⟩
 have e3:X=X%4294967296+X/4294967296*4294967296:=by omega
 have e4:X*(C*B)=X%4294967296*(C*B)+X/4294967296*(C*B*4294967296):=by
  conv=>lhs;rw [e3]
  rw [Nat.add_mul,Nat.mul_assoc (X/4294967296),Nat.mul_comm 4294967296]
 have e5:X*(C*B)=lb xs k*P*(C*B)+c*(C*B):=by rw [← hX,Nat.add_mul]
 have e6:lb xs k*P*(C*B)=lb xs k*B*P*C:=by
  rw [Nat.mul_comm C B,← Nat.mul_assoc,Nat.mul_right_comm (lb xs k) P B]
 rw [hX,Nat.add_mul,Nat.add_mul]
 omega
theorem BL.done {xs:List Nat} {q P k:Nat} {o:List Nat} {c:Nat} (h:BL xs q P (k+1) o c) (hx:∀ x∈xs,x<4294967296) (h1:xs.length≤k) (hP:P<4294967296) :
  val o=val xs*P*4294967296^q:=by
 have e:=h.val_eq
 have a1:=Tt xs k hx
 rw [DC xs _ (by omega)] at e a1
 have hc:c=0:=by
  rcases Nat.eq_zero_or_pos c with h0 | h0
  · exact h0
  · exfalso
    have b1:4294967296^(q+(k+1))≤c*4294967296^(q+(k+1)):=Nat.le_mul_of_pos_left _ h0
    have b2:val xs*P<4294967296^(k+1):=by
     rw [Nat.pow_succ]
     exact Nat.mul_lt_mul'' a1 hP
    have b3:val xs*P*4294967296^q<4294967296^(k+1)*4294967296^q:=Nat.mul_lt_mul_of_pos_right b2 (Nat.pow_pos (by decide))
    rw [← Nat.pow_add,Nat.add_comm (k+1) q] at b3
    omega
 subst hc
 omega
end Go.Proofs.YtgcieamfidoaoaaGreatDoor
/- The contracts of the document's own functions, in one form. -/
namespace Go.Proofs.YtgcieamfidoaoaaGreatDoor
open Go.RowKit
theorem Bd (w:World) (v:Value) (xs:List Nat) (h:U w v xs) (hl:xs.length≤1000000000) (n:Nat) (hn:val xs=n) :
  Calls Tryz.prog 100 #[v] w fun e w'=>∃ u,e = .returned u∧Un w' u n∧Ext w w' :=
 (dZ w v xs h hl).mono fun e w' ⟨⟨u,he,hu⟩,hw⟩=>⟨u,he,by rw [Un,← hn];exact hu,hw⟩
theorem TZ (w:World) (v:Value) (n:Nat) (h:Un w v n) (hl:(limbs n).length≤1000000000) (k:Int) (hk:((bJ n:Nat):Int)=k) :
  Calls Tryz.prog 131 #[v] w fun e w'=>e = .returned (.int .i64 k)∧Ext w w' :=
 (JP w v n h hl).mono fun e w' ⟨he,m,hw⟩=>⟨by rw [he,hk],by rw [hw];exact iF w m⟩
theorem XT (w:World) (v:Value) (n:Nat) (i:Int) (h:Un w v n) (hi0 : -9000000000000≤i) (hi1:i≤9000000000000) (k:Int) (hk:((qp n i:Nat):Int)=k) :
  Calls Tryz.prog 37 #[v,.int .i64 i] w fun e w'=>e = .returned (.int .u32 k)∧Ext w w' :=
 (LD w v n i hi0 hi1 h).mono fun e w' ⟨he,hw⟩=>⟨by rw [he,hk],by rw [← hw];exact Ext.refl w⟩
theorem jk (w:World) (v u:Value) (n m:Nat) (h:Un w v n) (g:Un w u m) (hl:(limbs n).length≤1000000000) (hl2:(limbs m).length≤1000000000) (k:Int) (hk:bN n m=k) :
  Calls Tryz.prog 47 #[v,u] w fun e w'=>e = .returned (.int .i64 k)∧Ext w w' :=
 (oM w v u _ _ h g hl hl2).mono fun e w' ⟨he,hw⟩=>⟨by rw [he,aJ,aJ,hk],by rw [← hw];exact Ext.refl w⟩
theorem Y7 (w:World) (v u:Value) (n m:Nat) (h:Un w v n) (g:Un w u m) (hm:(limbs n).length≤100000000) (hm2:(limbs m).length≤100000000) (s:Nat) (hs:n+m=s) :
  Calls Tryz.prog 77 #[v,u] w fun e w'=>∃ z,e = .returned z∧Un w' z s∧Ext w w':=by
 subst hs
 have:=LF w v u _ _ h g hm hm2
 rw [aJ,aJ] at this
 exact this.mono fun e w' ⟨⟨z,he,hz⟩,hb⟩=>⟨z,he,hz,hb⟩
theorem QR (w:World) (v u:Value) (n m:Nat) (h:Un w v n) (g:Un w u m) (hm:(limbs n).length≤100000000) (hm2:(limbs m).length≤100000000) (b:Bool) (hb:decide (m≤n)=b) (d:Nat) (hd:n-m=d) :
  Calls Tryz.prog 85 #[v,u] w fun e w'=>∃ z,e = .returned (.tuple #[z,.bool b])∧Un w' z d∧Ext w w' :=
 (LG w v u n m h g hm hm2 b hb d hd).mono fun e w' ⟨⟨z,he,hz⟩,hb⟩=>⟨z,he,hz,hb⟩
end Go.Proofs.YtgcieamfidoaoaaGreatDoor
