/- Base. -/
import Derived.Test.YtgcieamfidoaoaaGreatDoorGas
set_option linter.all false
set_option maxHeartbeats 8000000
namespace Go.Proofs.YtgcieamfidoaoaaGreatDoor
open Go.Proofs.Tryz
open Go.RowKit
theorem PZ {n m a b:Nat} (h1:(limbs n).length≤a) (h2:(limbs m).length≤b):(limbs (n+m)).length≤max a b+1:=by apply jC;have g1:=Nat.lt_of_lt_of_le (dS h1) (Nat.pow_le_pow_right (show 0<4294967296 by decide) (Nat.le_max_left a b));have g2:=Nat.lt_of_lt_of_le (dS h2) (Nat.pow_le_pow_right (show 0<4294967296 by decide) (Nat.le_max_right a b));rw [Nat.pow_succ];omega
theorem XX {n k:Nat} (h:(limbs n).length≤k):dI n≤32*k:=by apply eu;rw [← yM];exact dS h
theorem dW {n:Nat} (h:(limbs n).length≤65536):gX (limbs n)=true:=by
 unfold gX;by_cases h0:n=0
 · subst h0;rw [bF];rfl
 · have:=Hg h0;rw [decide_eq_true h,Bool.true_and,Bool.or_eq_true];right;rw [bne_iff_ne];exact this
theorem IA (n a k c:Nat) (h:(limbs n).length≤a) (hk:k≤32*c):(limbs (n*2^k)).length≤a+c:=by
 apply jC;have h1:=dS h;have h2:2^k≤4294967296^c:=by rw [yM];exact Nat.pow_le_pow_right (by decide) hk
 rw [Nat.pow_add];exact Nat.lt_of_lt_of_le (Nat.mul_lt_mul_of_pos_right h1 (Nat.two_pow_pos k)) (Nat.mul_le_mul_left _ h2)
theorem Uf (n i:Nat):rY n (i:Int)=n/2^i%2:=by unfold rY;rw [if_neg (by omega),Int.toNat_natCast]
theorem Dh (n:Nat):dI n≤32*(limbs n).length:=XX (Nat.le_refl _)
theorem lQ {n k:Nat} (h:n<LB^k):(limbs n).length≤k:=jC h
theorem U.gH {w:World} {v:Value} {n:Nat} (h:Un w v n):U w v (limbs n):=h
theorem NW (n:Nat):BB^n=2^(64*n):=by rw [Nat.pow_mul,show (2:Nat)^64=BB from by decide]
theorem Jv (n:Nat):(4294967296:Nat)^n=2^(32*n):=by rw [Nat.pow_mul,show (2:Nat)^32=4294967296 from by decide]
theorem aaP (n:Nat):BB^n=4294967296^(2*n):=by rw [NW,Jv];congr 1;omega
theorem NY (b L n sh V:Nat) (hL:(limbs b).length=L) (h2:2≤L) (hn:(L+1)/2=n) (hsh:64*n-dI b=sh) (hV:b*2^sh=V) :dI b≤64*n∧sh≤64∧V<BB^n∧9223372036854775808*BB^(n-1)≤V∧(limbs V).length≤2*n:=by
 have h1:dI b≤32*L:=by rw [← hL];exact Dh b
 have h3:4294967296^(L-1)≤b:=qB (by omega);rw [Jv] at h3;have h4:=oP h3;have hb0:b≠0:=by grind
 have h5:=jV b;have h6:=wD hb0;have h7:V<BB^n:=by rw [← hV,NW,show 64*n=dI b+sh by omega,Nat.pow_add];exact Nat.mul_lt_mul_of_pos_right h5 (Nat.two_pow_pos _)
 refine ⟨by omega,by omega,h7,?_,jC (by rw [← aaP];exact h7)⟩;have h8:2^(dI b-1)*2^sh≤V:=by rw [← hV];exact Nat.mul_le_mul_right _ h6
 rw [← Nat.pow_add,show dI b-1+sh=63+64*(n-1) by omega,Nat.pow_add,← NW,show (2:Nat)^63=9223372036854775808 from by decide] at h8;exact h8
theorem NZ (A lA n m:Nat) (hA:(limbs A).length=lA) (hm:max ((lA+1)/2) n+1=m):A<BB^(m-1):=by have h1:=ow A;refine Nat.lt_of_lt_of_le h1 ?_;rw [aaP];exact Nat.pow_le_pow_right (by decide) (by omega)
theorem RB (vs:List Nat) (k V:Nat) (hl:vs.length=k+1) (hx:∀ x∈vs,x<18446744073709551616) (hv:bI vs=V) (h:9223372036854775808*BB^k≤V):9223372036854775808≤lb vs k:=by
 have h1:=uN vs k hl hx;rw [hv,Nat.mul_comm] at h1;have h2:9223372036854775808*BB^k<(lb vs k+1)*BB^k:=by omega
 have:=Nat.lt_of_mul_lt_mul_right h2;omega
set_option maxRecDepth 100000 in
theorem Lh (w:World) (va vb:Value) (a b q r:Nat) (ha:Un w va a) (hb:Un w vb b) (hla:(limbs a).length≤1000) (hlb:(limbs b).length≤1000) (h2:2≤(limbs b).length) (hq:a/b=q) (hr:a%b=r) :Calls prog 190 #[va,vb] w fun e w'=>(∃ x y,e = .returned (.tuple #[x,y])∧Un w' x q∧Un w' y r)∧Ext w w':=by
 obtain ⟨L,hL⟩:∃ L,(limbs b).length=L:=⟨_,rfl⟩;obtain ⟨n,hn⟩:∃ n,(L+1)/2=n:=⟨_,rfl⟩;obtain ⟨bl,hbl⟩:∃ bl,dI b=bl:=⟨_,rfl⟩;obtain ⟨sh,hsh⟩:∃ sh,64*n-bl=sh:=⟨_,rfl⟩;obtain ⟨V0,hV⟩:∃ V0,b*2^sh=V0:=⟨_,rfl⟩;obtain ⟨A0,hA⟩:∃ A0,a*2^sh=A0:=⟨_,rfl⟩;rw [hL] at hlb h2;obtain ⟨m1,m2,m3,m4,m5⟩:=NY b L n sh V0 hL h2 hn (by rw [hbl];exact hsh) hV;rw [hbl] at m1;obtain ⟨lA,hlA⟩:∃ lA,(limbs A0).length=lA:=⟨_,rfl⟩;have ahB:lA≤1002:=by rw [← hlA,← hA];exact Nat.le_trans (IA a 1000 sh 2 hla (by omega)) (by omega)
 obtain ⟨h,hh⟩:∃ h,(lA+1)/2=h:=⟨_,rfl⟩;obtain ⟨mx,hmx⟩:∃ mx,max h n=mx:=⟨_,rfl⟩;obtain ⟨m,hm⟩:∃ m,mx+1=m:=⟨_,rfl⟩;have aef:=NZ A0 lA n m hlA (by rw [hh,hmx];exact hm);obtain ⟨k,hk⟩:∃ k,m-n=k:=⟨_,rfl⟩;have hkm:k+n=m:=by omega
 have hk1:1≤k:=by omega
 have hn1:1≤n:=by omega
 have hnb:n≤501:=by omega
 have hmb:m≤503:=by omega
 obtain ⟨n1,Uc⟩:∃ n1,n=n1+1:=⟨n-1,by omega⟩;have IB:=Lib.hid (EF w vb b hb (by omega) (bl:Int) (by rw [hbl]));have aeg:=Lib.hid (fun W v (h:Un W v b)=>EG W v b (sh:Int) h (Int.natCast_nonneg _) (by omega) (by omega) V0 (by rw [Int.toNat_natCast];exact hV));have aeh:=Lib.hid (fun W v (h:Un W v a)=>EG W v a (sh:Int) h (Int.natCast_nonneg _) (by omega) (by omega) A0 (by rw [Int.toNat_natCast];exact hA));have HPv:=Lib.hid (fun W v (h:Un W v V0)=>Dc W v (limbs V0) h (by omega) n (by omega) (by omega));have HPa:=Lib.hid (fun W v (h:Un W v A0)=>Dc W v (limbs A0) h (by omega) m (by rw [hlA];omega) (by omega));have aei:Hid (∀ vs:List Nat,vs.length=n→(∀ x∈vs,x<18446744073709551616)→bI vs=V0→9223372036854775808≤lb vs n1):=fun vs e1 e2 e3=>RB vs n1 V0 (by omega) e2 e3 (by rw [show n1=n-1 by omega];exact m4);have aej:Hid (∀ o:List Nat,o.length=m→(∀ x∈o,x<18446744073709551616)→bI o=A0→Rw V0 A0 n m k o (List.replicate k 0)):=fun o e1 e2 e3=>Rw.start V0 A0 n m o k hkm (by omega) e1 e2 e3 aef (Nat.le_trans (Nat.le_mul_of_pos_left _ (by decide)) m4);have HLT:=Lib.hid m3;obtain ⟨R0,hR0⟩:∃ R0,r*2^sh=R0:=⟨_,rfl⟩;have Yb:Hid (∀ o ql,Rw V0 A0 n m 0 o ql→bI ql=q∧bI (o.take n)=R0):=fun o ql h=>by obtain ⟨d1,d2⟩:=h.done m3 (by omega);rw [← hA,← hV,Nat.mul_div_mul_right _ _ (Nat.two_pow_pos sh),hq] at d1;rw [← hA,← hV,Nat.mul_mod_mul_right,hr,hR0] at d2;exact ⟨d1.symm,d2⟩
 have hrb:(limbs R0).length≤1002:=by rw [← hR0];refine Nat.le_trans (IA r 1000 sh 2 ?_ (by omega)) (by omega);exact Nat.le_trans (iK (by rw [← hr];exact Nat.mod_le _ _)) hla
 have aek:=Lib.hid (fun W v (h:Un W v R0)=>Ud W v R0 (sh:Int) h (Int.natCast_nonneg _) (by omega) (by omega) r (by rw [Int.toNat_natCast,← hR0];exact Nat.mul_div_cancel _ (Nat.two_pow_pos sh)));have Yx:=Lib.hid (And.intro Uc (And.intro hkm (And.intro hk1 (And.intro hn1 (And.intro hnb hmb)))));have e1:((L:Int)+1)/2=(n:Int):=by omega
 have e2:((L:Int)+1).tdiv 2=(n:Int):=by rw [Int.tdiv_eq_ediv_of_nonneg (by omega)];exact e1
 have e3:(64:Int)*(n:Int)-(bl:Int)=(sh:Int):=by omega
 have e4:((lA:Int)+1)/2=(h:Int):=by omega
 have e5:((lA:Int)+1).tdiv 2=(h:Int):=by rw [Int.tdiv_eq_ediv_of_nonneg (by omega)];exact e4
 have e6:(if (h:Int)<(n:Int) then (n:Int) else (h:Int))=(mx:Int):=by split<;>omega
 have e7:(if h<n then (n:Int) else (h:Int))=(mx:Int):=by split<;>omega
 have e8:(mx:Int)+1=(m:Int):=by omega
 have e9:(m:Int)-(n:Int)=(k:Int):=by omega
 have HBD:=Lib.hid (And.intro hlb (And.intro ahB (show bl≤64*501 by omega)));obtain ⟨Ab,cb,rfl,hcb⟩:=hb.shape;rw [hL] at IB;have hb':Un w (.slice Ab (limbs b).length cb) b:=hb;rw [hL] at hb' ⊢;have HLA:=Lib.hid hlA;have yL:=Ext.refl w;clear hb hL hn hbl hsh hV hA hlA hh hmx hm hk m1 m3 m4 m5 aef hq hr hR0 Uc hkm hk1 hn1 hcb;go_enter func190,ntmps190;go_wp2_with (fail);refine IB.out.mono ?_;rintro e w1 ⟨rfl,hB⟩;replace hb':=U.below (U.gH hb') hB;replace ha:=U.below (U.gH ha) hB;replace yL:=yL.below hB;clear hB IB;go_wp2_with (fail);refine (aeg.out _ _ hb').mono ?_;rintro e w2 ⟨v2,rfl,hv2,hB⟩;replace ha:=U.below (U.gH ha) hB;replace yL:=yL.below hB;clear hB aeg hb';go_wp2_with (fail);have hs2:=yL.size;refine (HPv.out _ _ hv2).mono ?_;rintro e w3 ⟨rfl,⟨vs,hov,hwv,hxv,hlv⟩,hB⟩;rw [aM] at hwv;replace hov:=hov.qM hs2;replace ha:=U.below (U.gH ha) hB;replace yL:=yL.below hB;clear hB HPv hv2;generalize w2.heap.size=gv at *;go_wp2_with (fail);refine (aeh.out _ _ ha).mono ?_;rintro e w4 ⟨va4,rfl,hva,hB⟩;replace hov:=hov.ext hB;replace yL:=yL.below hB;clear hB aeh ha;obtain ⟨Aa,ca,rfl,hca⟩:=U.shape (U.gH hva);rw [HLA.out] at hva ⊢;go_wp2_with (fail);have hs4:=yL.size;have hvb:=hov.block;refine (HPa.out _ _ hva).mono ?_;rintro e w5 ⟨rfl,⟨o,hoa,hwa,hxa,hlo⟩,hB⟩;rw [aM] at hwa;have hne1:gv≠w4.heap.size:=by omega
 replace hoa:=hoa.qM hs4;replace hov:=hov.ext hB;replace yL:=yL.below hB;clear hB HPa hva hca hvb;generalize w4.heap.size=gu at *;have hST:=aej.out o hlo hxa hwa;have HSS:=Lib.hid hST;have htop:=aei.out vs hlv hxv hwv;have hs5:=yL.size;have hub:=hoa.block;have hvb:=hov.block;have hne2:gu≠w5.heap.size:=by omega
 have amF:gv≠w5.heap.size:=by omega
 obtain ⟨i0,hi,hz0,hz1,hz2⟩:=info_parts wC;have hkb:k≤503:=by have:=Yx.out;omega
 have hmb:m≤503:=by have:=Yx.out;omega
 have hnb:n≤501:=by have:=Yx.out;omega
 have HTP:=Lib.hid htop;have HWV:=Lib.hid hwv;have HXV:=Lib.hid hxv;clear hST htop hwv hxv hwa hxa aej aei;go_wp2_with (at_make;refine wpList_make_full _ rfl _ _ 145 rfl w5.heap.size 111 i0 (.int .u64 0) 1 underlying145 hi hz0 hz1 _ _ _ _ k rfl rfl (by omega) (by omega) (by rw [hz2];omega) (by unfold maxLen;omega) (Nat.le_refl _) ?_;intro w6 hown hgrow);have hoq:=Ow.zeros hown;have qC:Ext w5 w6:=(Ext.refl w5).grown hgrow (Nat.le_refl _) (fun _ h=>by cases h);replace hoq:=hoq.qM hs5;replace hoa:=hoa.ext qC;replace hov:=hov.ext qC;replace yL:=yL.below qC;generalize w5.heap.size=gq at *;have hgu:=hoa.block.1;clear hown hgrow hi hz0 hz1 hz2 i0 qC hub hvb hs2 hs4 hs5;go_wp2;go_loopw [11] (fun t wr=>∃ (j:Nat) (z:Int) (o ql:List Nat),j≤k∧t = .int .i64 z∧z=(j:Int)-1∧Hid (Rw V0 A0 n m j o ql)∧Ow wr w.heap.size (.slice (some ⟨gu,0,none⟩) m m) o∧Ow wr w.heap.size (.slice (some ⟨gq,0,none⟩) k k) ql∧Ow wr w.heap.size (.slice (some ⟨gv,0,none⟩) n n) vs∧Ext w wr) (fun t _=>(intOf t+1).toNat);case atStart=>exact ⟨k,_,_,_,Nat.le_refl _,rfl,rfl,HSS,hoa,hoq,hov,yL⟩
 case round =>
  clear hoa hoq hov yL HSS;obtain ⟨j,z,o,ql,hj,rfl,hz,HO,hoa,hoq,hov,hE⟩:=hrel;cases j with
  | zero =>
   obtain rfl:z = -1:=(by omega);obtain ⟨d1,d2⟩:=Yb.out o ql HO.out;have hq0:=hoq.KZ HO.out.xq (gq+1) (by omega);have hlq:ql.length≤1000000:=(by have:=HO.out.lq;omega);have hu0:=(hoa.KZ HO.out.xo (gu+1) (by omega)).take (k:=n) (c':=m) (by have:=Yx.out;omega) (by have:=Yx.out;omega);have hun:(o.take n).length≤1000000:=(by rw [List.length_take];omega);have HU1:=Lib.hid (yK _ _ _ _ (V.below hq0 ((Ext.refl wr).drew)) hlq q d1);have HU2:=Lib.hid (fun W (h:V (gu+1) W (.slice (some ⟨gu,0,none⟩) n m) (o.take n))=>yK W _ _ _ h hun R0 d2);have hu1:=V.below hu0 ((Ext.refl wr).drew);have b1:(n:Int)≤(m:Int):=(by have:=Yx.out;omega);have b2:n≤m:=(by have:=Yx.out;omega);have b3:(0:Int)≤(n:Int):=Int.natCast_nonneg n;clear d1 d2 hq0 hlq hun hu0 hoa hoq hov HO Yb hz HTP HWV HXV Yx;go_wp2_with (fail)
   go_region_held3 (fun X=>True)
    (first
     | exact trivial)
    (first
     | (go_at_call 226;((with_reducible refine HU1.out.mono ?_);rintro e wa ⟨⟨x1,rfl,hx1⟩,hB1⟩;have hu2:=hu1.below hB1))
     | (go_at_call 226;((with_reducible refine (HU2.out _ hu2).mono ?_);rintro e wb ⟨⟨x2,rfl,hx2⟩,hB2⟩;have Yw:=U.below (U.gH hx1) hB2))
     | (go_at_call 145;((with_reducible refine (aek.out _ _ hx2).mono ?_);rintro e wc ⟨x3,rfl,hx3,hB3⟩;have ael:=U.below Yw hB3)))
   have HF:Hid (∃ x y,Ending.returned (.tuple #[x1,x3]) = .returned (.tuple #[x,y])∧Un wc x q∧Un wc y r):=⟨_,_,rfl,ael,hx3⟩;have Yy:=((hE.drew.below hB1).below hB2).below hB3;clear hx1 hx2 hx3 Yw ael hB1 hB2 hB3 hu1 hu2 HU1 HU2 aek hE;go_wp2;go_ret2;exact ⟨HF.out,Yy⟩
  | succ j =>
   obtain rfl:z=(j:Int):=(by omega);obtain ⟨Uc,hkm,hk1,hn1,-,-⟩:=Yx.out;obtain ⟨p1,p2,p3,p4⟩:=PW HO.out (by omega) HLT.out;have aem:Ow wr w.heap.size (.slice (some ⟨gu,0,none⟩) m m) (Sg (o.take j) ((o.drop j).take (n+1)) ((o.drop j).drop (n+1))):=(by rw [← TS];exact hoa);have hV0:V gu wr (.slice (some ⟨gv,0,none⟩) n n) vs:=hov.KZ HXV.out gu hne1;have aen:=Lib.hid (Lf wr gu w.heap.size m m j (m-j) _ _ _ vs _ aem (fun x hx=>HO.out.xo x (List.mem_of_mem_drop (List.mem_of_mem_take hx))) p4 n n1 Uc p1 hlv (by omega) (by omega) hV0 HTP.out (by rw [HWV.out];exact p2));have i1:(j:Int)+(n:Int)+1≤(m:Int):=(by omega);have i2:(j:Int)≤(j:Int)+(n:Int)+1:=(by omega);have i3:j≤m:=(by omega);have i4:j+n+1-j=n+1:=(by omega);have i5:((j:Int)+(n:Int)+1).toNat=j+n+1:=(by omega);have i6:j<k:=(by omega);have i7:j+1+n≤m:=(by omega);clear Uc hkm hk1 hn1 p1 p2 p3 p4 aem hV0 hoa hz;go_wp2_with (fail);refine aen.out.mono ?_;rintro e w7 ⟨⟨d,s',rfl,hd,hsl,hsx,hdm,hdv,aeo⟩,hB⟩;have HSN:Hid (Rw V0 A0 n m j (Sg (o.take j) s' ((o.drop j).drop (n+1))) (ql.set j d)):=HO.out.step i7 HLT.out d (bI s') s' hsl hsx hd (by rw [← HWV.out];exact hdm) rfl (by rw [← HWV.out];exact hdv);have hq2:=hoq.but hB (show gq≠gu by omega);have aep:=hov.but hB (show gv≠gu by omega);have hf:=hq2.frozen j;have hcz:=hq2.cell (j:=j) i6;have hq3:=hq2.qU j d;have Yz:But gq w7 (w7.setCell ⟨gq,j,none⟩ (.int .u64 (d:Nat))):=(But.refl gq w7).setCell j _;have ahE:=aeo.but Yz (show gu≠gq by omega);have ahF:=aep.but Yz (show gv≠gq by omega);have hgq:=hq2.block.1;have fV:=(hE.but hB hgu).setCell (p:=⟨gq,j,none⟩) hgq (.int .u64 (d:Nat));clear aen hsl hsx hdm hdv aeo hB hq2 aep Yz hoq hov hE HO hd;go_wp2;go_roundw;case rel=>exact ⟨j,_,_,_,by omega,rfl,rfl,HSN,ahE,hq3,ahF,fV⟩
   case measure=>simp [intOf]
theorem nk (x:Nat) (h0:x≠0) (h:x<4294967296):limbs x=[x]:=by rw [iG h0,Nat.mod_eq_of_lt h,Nat.div_eq_of_lt h,bF]
theorem Ee (w:World) (N:Nat) (hN:w.heap.size=N) (x:Nat) (h0:x≠0) (h:x<4294967296):Un (w.alloc (.cells #[.int .u32 (x:Nat)] 57)) (.slice (some ⟨N,0,none⟩) 1 1) x:=by subst hN;have:=Lj w [x] (by simpa using h) (by simp);rw [Un,nk x h0 h];exact this
theorem ahI {x:Nat} (h:x<4294967296):(limbs x).length≤398:=Nat.le_trans (lQ (k:=1) (by unfold LB;omega)) (by decide)
theorem RD {b:Nat} (h:(limbs b).length=1):b<4294967296∧b≠0∧lb (limbs b) 0=b:=by
 have h1:=dS (show (limbs b).length≤1 by omega);rw [Nat.pow_one] at h1;have h0:b≠0:=by intro e;rw [e,bF] at h;simp at h
 refine ⟨h1,h0,?_⟩;rw [qW,Nat.pow_zero,Nat.div_one,Nat.mod_eq_of_lt h1]
theorem Li {b:Nat} (h:b≠0):0<(limbs b).length:=by
 rcases Nat.eq_zero_or_pos (limbs b).length with e | e
 · exact absurd (zY.1 (List.length_eq_zero_iff.1 e)) h
 · exact e
def Dv (w w':World) (e:Ending) (q r:Nat):Prop:=(∃ x y,e = .returned (.tuple #[x,y,.int .i64 0])∧Un w' x q∧Un w' y r)∧Ext w w'
set_option maxRecDepth 100000 in
theorem Ue (w:World) (va vb:Value) (a b q r:Nat) (ha:Un w va a) (hb:Un w vb b) (hla:(limbs a).length≤1000) (hlb:(limbs b).length≤1000) (h0:b≠0) (hq:a/b=q) (hr:a%b=r) :Calls prog 168 #[va,vb] w fun e w'=>Dv w w' e q r:=by
 unfold Dv;have hnz:=Li h0;obtain ⟨Ab,cb,rfl,hcb⟩:=U.shape (U.gH hb);obtain ⟨L,hL⟩:∃ L,(limbs b).length=L:=⟨_,rfl⟩;obtain ⟨k,hk⟩:∃ k,dA (a:Int) (b:Int)=k:=⟨_,rfl⟩;have N7:=Lib.hid (jy w va _ a b ha hb k hk);have hb2:=hb;rw [hL] at hnz hlb hb2 N7 ⊢;have hL0:((L:Int)==0)=false:=by rw [beq_eq_false_iff_ne];omega
 have ahG:¬ L=0:=by omega
 have yL:=Ext.refl w;rcases Nat.lt_or_ge a b with hlt | hge
 · have hq0:q=0:=(by rw [← hq];exact Nat.div_eq_of_lt hlt);have hr0:r=a:=(by rw [← hr];exact Nat.mod_eq_of_lt hlt);have hk1:k = -1:=(by rw [← hk];exact lU (by omega));subst hq0 hr0 hk1;clear hq hr hk hlt hb hb2 hL hcb hla hlb;go_enter func168,ntmps168;go_wp2_with (fail);refine N7.out.mono ?_;rintro e w1 ⟨rfl,hB⟩;replace ha:=U.below (U.gH ha) hB;replace yL:=yL.below hB;have HF:Hid (∃ x y,Ending.returned (.tuple #[.slice none 0 0,va,.int .i64 0]) = .returned (.tuple #[x,y,.int .i64 0])∧Un w1 x 0∧Un w1 y r):=⟨_,_,rfl,Oa _,ha⟩;clear hB N7 ha;go_wp2;go_ret3;exact ⟨HF.out,yL⟩
 · have hk1:¬ k<0:=by
    rw [← hk];rcases Nat.lt_or_ge b a with h | h
    · rw [mF (by omega)];decide
    · rw [show a=b by omega,qD];decide
   have hk2:decide (k<0)=false:=(by rw [decide_eq_false_iff_not];exact hk1);by_cases h1:L=1
   · obtain ⟨b1,b2,b3⟩:=RD (hL.trans h1);have hS:=Lib.hid (fun W (h:Un W va a)=>Lg W va a b h (by omega) b1 h0 q r hq hr);have hL1:((L:Int)==1)=true:=(by rw [beq_iff_eq];omega);obtain ⟨ad,rfl,hbk,hcell⟩:∃ ad,Ab=some ad∧ad.block<w.heap.size∧w.cell? ad=some (.int .u32 (b:Nat)):=(by obtain ⟨A',c',hv,_,_,hr'⟩:=hb;obtain ⟨ad,e1,e2,e3⟩:=hr' (by omega);injection hv with hv1;have:=e3 0 (by omega);rw [lF,b3] at this;exact ⟨ad,by rw [hv1,e1],e2,this⟩);have hrb:r<4294967296:=(by rw [← hr];exact Nat.lt_trans (Nat.mod_lt _ (by omega)) b1);have HRB:=Lib.hid hrb;subst h1;clear hq hr hk hge b1 b2 b3 hb hb2 hL hla hlb h0 hrb ahG;go_enter func168,ntmps168;go_wp2_with (fail);refine N7.out.mono ?_;rintro e w1 ⟨rfl,hB⟩;replace ha:=U.below (U.gH ha) hB;replace yL:=yL.below hB;have hcell1:=(hB.cell (p:=ad) hbk).trans hcell;clear hB N7 hcell;go_wp2_with (fail);refine (hS.out _ ha).mono ?_;rintro e w2 ⟨⟨x,rfl,hx⟩,hB⟩;replace yL:=yL.below hB;have HU:Hid (U (w2.alloc (.cells #[.int .u32 (r:Nat)] 57)) (.slice (some ⟨w2.heap.size,0,none⟩) 1 1) [r]):=Lj w2 [r] (by simpa using HRB.out) (by simp);have HMK:Hid (∀ W v,U W v [r]→Calls prog 92 #[v] W fun e w'=>∃ u,e = .returned u∧Un w' u r∧Ext W w'):=fun W v h=>Ce W v [r] h r (by simp [val]);clear hB hS hcell1 ha;go_wp2_with (fail);refine (HMK.out _ _ HU.out).mono ?_;rintro e w3 ⟨y,rfl,hy,hB⟩;have HF:Hid (∃ x' y',Ending.returned (.tuple #[x,y,.int .i64 0]) = .returned (.tuple #[x',y',.int .i64 0])∧Un w3 x' q∧Un w3 y' r):=⟨_,_,rfl,U.below (U.alloc (U.gH hx) _) hB,hy⟩;have Yy:=(yL.alloc _).below hB;clear hx hy hB HU HMK yL;go_wp2;go_ret3;exact ⟨HF.out,Yy⟩
   · have hL1:((L:Int)==1)=false:=(by rw [beq_eq_false_iff_ne];omega);have hW:=Lib.hid (fun W (h:Un W va a) (h':Un W (.slice Ab L cb) b)=>Lh W va _ a b q r h h' hla (by omega) (by omega) hq hr);clear hq hr hk hge hb hL hla hlb h0;go_enter func168,ntmps168;go_wp2_with (fail);refine N7.out.mono ?_;rintro e w1 ⟨rfl,hB⟩;replace ha:=U.below (U.gH ha) hB;replace hb2:=U.below (U.gH hb2) hB;replace yL:=yL.below hB;clear hB N7;go_wp2_with (fail);refine (hW.out _ ha hb2).mono ?_;rintro e w2 ⟨⟨x,y,rfl,hx,hy⟩,hB⟩;replace yL:=yL.below hB;have HF:Hid (∃ x' y',Ending.returned (.tuple #[x,y,.int .i64 0]) = .returned (.tuple #[x',y',.int .i64 0])∧Un w2 x' q∧Un w2 y' r):=⟨_,_,rfl,hx,hy⟩;clear hx hy hB hW ha hb2;go_wp2;go_ret3;exact ⟨HF.out,yL⟩
set_option maxRecDepth 100000 in
theorem wE (w:World) (va vb:Value) (a b q r:Nat) (ha:Un w va a) (hb:Un w vb b) (hla:(limbs a).length≤1000) (hlb:(limbs b).length≤1000) (h0:b≠0) (hq:a/b=q) (hr:a%b=r) :Calls prog 143 #[va,vb] w fun e w'=>Dv w w' e q r:=by
 have hS:=Lib.hid (Ue w va vb a b q r ha hb hla hlb h0 hq hr);unfold Dv at *;obtain ⟨Aa,ca,rfl,hca⟩:=U.shape (U.gH ha);obtain ⟨Ab,cb,rfl,hcb⟩:=U.shape (U.gH hb);clear ha hb hq hr h0;generalize (limbs a).length=la at *;generalize (limbs b).length=lb_ at *;obtain ⟨d,hd⟩:∃ d:Int,(la:Int)-(lb_:Int)=d:=⟨_,rfl⟩;obtain ⟨mn,hmn⟩:∃ mn:Int,(if d<(lb_:Int) then d else (lb_:Int))=mn:=⟨_,rfl⟩;have hm1:decide ((1600:Int)≤mn)=false:=by rw [decide_eq_false_iff_not];split at hmn<;>omega
 have hm2:¬ (1600:Int)≤mn:=by split at hmn<;>omega
 have HA:=Lib.hid hca;clear hca hcb;go_enter func143,ntmps143;go_wp2_with (fail);refine hS.out.mono ?_;rintro e w1 ⟨⟨x,y,rfl,hx,hy⟩,hB⟩;have HF:Hid (∃ x' y',Ending.returned (.tuple #[x,y,.int .i64 0]) = .returned (.tuple #[x',y',.int .i64 0])∧Un w1 x' q∧Un w1 y' r):=⟨_,_,rfl,hx,hy⟩;clear hx hy hS;go_wp2;go_ret3;exact ⟨HF.out,hB⟩
theorem mulN (w:World) (va vb:Value) (n m k:Nat) (ha:Un w va n) (hb:Un w vb m) (hn:(limbs n).length≤78) (hm:(limbs m).length≤78) (hk:n*m=k) :A0l 94 #[va,vb] w k:=by refine (aaQ w va vb _ _ ha hb (by omega) (by omega) (by omega)).mono ?_;rw [aM,aM,hk];rintro e w' ⟨⟨u,h1,h2⟩,h3⟩;exact ⟨u,h1,h2,h3⟩
theorem yg (w:World):Un (w.alloc (.cells #[.int .u32 1] 57)) (.slice (some ⟨w.heap.size,0,none⟩) 1 1) 1:=Ee w _ rfl 1 (by decide) (by decide)
theorem Ll:(limbs 1).length≤1000000000:=Nat.le_trans (ahI (by decide)) (by decide)
