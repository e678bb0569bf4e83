/- Rows of words multiplied, word by word. -/
import Derived.Test.YtdpmbgomcjnohaaGreatDoorBak
import Derived.Test.YtdpmbgomcjnohaaGreatDoorBaf
import Derived.Deep.RegionHeld3
import Derived.Deep.CutBlock
import Derived.WalkMore

namespace Go.Proofs.YtdpmbgomcjnohaaGreatDoor
open Go.RowKit
set_option linter.unusedVariables false
set_option maxHeartbeats 400000
theorem Wx {x y:Nat} (hx:x<18446744073709551616) (hy:y<18446744073709551616):x*y≤340282366920938463426481119284349108225:=by
 calc x*y≤18446744073709551615*18446744073709551615:=Nat.mul_le_mul (by omega) (by omega)
  _=_:=by decide
theorem Sd (t z cr hi lo s1 c1 s2 c2:Nat) (ht:t≤340282366920938463426481119284349108225) (hz:z<18446744073709551616) (hc:cr<18446744073709551616)
  (h1:t/18446744073709551616=hi) (h2:t%18446744073709551616=lo) (h3:(lo+z)%18446744073709551616=s1) (h4:(lo+z)/18446744073709551616=c1)
  (h5:(s1+cr)%18446744073709551616=s2) (h6:(s1+cr)/18446744073709551616=c2):z+t+cr=s2+BB*(hi+c1+c2)∧hi+c1+c2<18446744073709551616∧c1≤1∧c2≤1∧s1<18446744073709551616∧s2<18446744073709551616∧lo<18446744073709551616:=by
 unfold BB
 have e1:t=18446744073709551616*hi+lo:=by omega
 have e2:lo+z=18446744073709551616*c1+s1:=by omega
 have e3:s1+cr=18446744073709551616*c2+s2:=by omega
 have b1:lo<18446744073709551616:=by omega
 have b2:s1<18446744073709551616:=by omega
 have b3:s2<18446744073709551616:=by omega
 clear h1 h2 h3 h4 h5 h6
 refine ⟨by omega,by omega,by omega,by omega,b2,b3,b1⟩
structure RwI (o0:List Nat) (n off:Nat) (A:Nat) (i:Nat) (o:List Nat) (cy:Nat):Prop where
 len:o.length=n
 lt:∀ x∈o,x<18446744073709551616
 zT:cy<18446744073709551616
 val:aU o+BB^(off+i)*cy=A
 out:∀ m,off+i≤m→lb o m=lb o0 m
theorem RwI.step {o0:List Nat} {n off A i:Nat} {o:List Nat} {cy:Nat} (h:RwI o0 n off A i o cy) (hi:off+i<n) (t s d:Nat)
  (hs:lb o (off+i)+t+cy=s+BB*d) (hsb:s<18446744073709551616) (hd:d<18446744073709551616):RwI o0 n off (A+BB^(off+i)*t) (i+1) (o.set (off+i) s) d:=by
 refine ⟨by simp [h.len],dY h.lt hsb,hd,?_,fun m hm=>?_⟩
 · rw [← Nat.add_assoc,Nat.pow_succ]
   exact Ez _ _ _ _ _ _ _ _ _ (mZ o (off+i) s (by rw [h.len];exact hi)) h.val hs
 · rw [bX _ (by omega)];exact h.out m (by omega)
set_option maxRecDepth 100000 in
set_option maxHeartbeats 4000000 in
theorem Oe (w:World) (g base n c off zc:Nat) (o cZ:List Nat) (va:Value) (yv:Nat) (hyv:yv<18446744073709551616) (hown:Ow w base (.slice (some ⟨g,0,none⟩) n c) o) (ho:∀ x∈o,x<18446744073709551616)
  (na:Nat) (hna:cZ.length=na) (hz:off+na+1≤n) (hzc:na+1≤zc) (hn:n≤1000000) (ha:V g w va cZ) (h0:lb o (off+na)=0) :
  Calls Tryz.prog 165 #[.slice (some ⟨g,off,none⟩) (na+1:Nat) zc,va,.int .u64 (yv:Nat)] w fun e w'=>e = .returned (.tuple #[])∧(∃ o',Ow w' base (.slice (some ⟨g,0,none⟩) n c) o'∧aU o'=aU o+BB^off*(aU cZ*yv)∧(∀ x∈o',x<18446744073709551616)∧∀ m,off+na<m→lb o' m=lb o m)∧But g w w':=by
 have hlim:=ha.lim
 obtain ⟨A,ca,rfl,⟨hca,hma⟩,hx,hr⟩:=id ha
 have hcap:=hown.caps
 have hgb:=hown.block.2
 have HN:=Lib.hid hna
 have H0:=Lib.hid h0
 have HS:Hid (RwI o n off (aU o+BB^off*(aU (cZ.take 0)*yv)) 0 o 0):=⟨hcap.1.symm,ho,by decide,by simp [aU],fun m _=>rfl⟩
 have SQ:=Lib.hid (fun k=>gm cZ k)
 have HT2:Hid (cZ.take na=cZ):=by rw [Hid,← hna];exact List.take_length
 rw [hna] at hca hma hr ⊢
 have hB0:=But.refl g w
 have ajc:((na+1:Nat):Int)=(na:Int)+1:=by omega
 clear ha hna hcap ho h0
 go_enter Tryz.func165,Tryz.ntmps165
 go_wp2
 go_loopw [20,6] (fun t s wr=>∃ (i:Nat) (o':List Nat) (cy:Nat),i≤na∧t = .int .i64 (i:Nat)∧s = .int .u64 (cy:Nat)∧Hid (RwI o n off (aU o+BB^off*(aU (cZ.take i)*yv)) i o' cy)∧Ow wr base (.slice (some ⟨g,0,none⟩) n c) o'∧But g w wr) (fun t _ _=>na-(intOf t).toNat)
 case atStart=>exact ⟨0,o,0,Nat.zero_le _,rfl,rfl,HS,hown,hB0⟩
 case round =>
  clear HS hown hB0
  obtain ⟨i,o',cy,hi,rfl,rfl,HO,hown,hB⟩:=hrel
  by_cases hlt:i<na
  · obtain ⟨ad,rfl,hb,hne,hcell⟩:=hr (by omega)
    have hc0:=(hB.cell (p:=ad.add i) (by rw [aF];exact hb) (by rw [aF];exact hne)).trans (hcell i hlt)
    have hy:lb cZ i<18446744073709551616:=dh (by decide) hx i
    have htk:=SQ.out i (by rw [HN.out];exact hlt)
    have hcz:=hown.cell (j:=off+i) (by omega)
    have hf:=hown.frozen (off+i)
    have hx1:lb o' (off+i)<18446744073709551616:=dh (by decide) HO.out.lt _
    have hcy:=HO.out.zT
    obtain ⟨x,wF⟩:∃ x,lb cZ i=x:=⟨_,rfl⟩
    rw [wF] at hc0 hy htk
    obtain ⟨z,hzz⟩:∃ z,lb o' (off+i)=z:=⟨_,rfl⟩
    rw [hzz] at hcz hx1
    obtain ⟨t,ht⟩:∃ t,x*yv=t:=⟨_,rfl⟩
    have ht1:t≤340282366920938463426481119284349108225:=by rw [← ht];exact Wx hy hyv
    obtain ⟨Si,hhi⟩:∃ Si,t/18446744073709551616=Si:=⟨_,rfl⟩
    obtain ⟨lo,hlo⟩:∃ lo,t%18446744073709551616=lo:=⟨_,rfl⟩
    obtain ⟨s1,hs1⟩:∃ s1,(lo+z)%18446744073709551616=s1:=⟨_,rfl⟩
    obtain ⟨c1,hc1⟩:∃ c1,(lo+z)/18446744073709551616=c1:=⟨_,rfl⟩
    obtain ⟨s2,hs2⟩:∃ s2,(s1+cy)%18446744073709551616=s2:=⟨_,rfl⟩
    obtain ⟨c2,hc2⟩:∃ c2,(s1+cy)/18446744073709551616=c2:=⟨_,rfl⟩
    obtain ⟨hm,hd1,hk1,hk2,hb1,hb2,hlo1⟩:=Sd t z cy Si lo s1 c1 s2 c2 ht1 hx1 hcy hhi hlo hs1 hc1 hs2 hc2
    have hst:=HO.out.step (by omega) t s2 (Si+c1+c2) (by rw [hzz];exact hm) hb2 hd1
    rw [Nat.add_assoc (aU o),Nat.pow_add,Nat.mul_assoc,← Nat.mul_add,← ht,← Nat.mul_assoc,← Nat.add_mul,← htk] at hst
    have HST:=Lib.hid hst
    have hown2:=hown.nO (off+i) s2
    have hB2:=hB.setCell (off+i) (.int .u64 (s2:Nat))
    have hMul:Hid (∀ W,Calls Tryz.prog 181 #[.int .u64 (x:Nat),.int .u64 (yv:Nat)] W fun e w'=>e = .returned (.tuple #[.int .u64 (Si:Nat),.int .u64 (lo:Nat)])∧w'=W):=by
     intro W
     have:=rJ x yv hy hyv W
     rw [ht,hhi,hlo] at this
     exact this
    have YQ:∀ w,(callFunc 170 #[.int .u64 (lo:Nat),.int .u64 (z:Nat),.int .u64 0]).run Tryz.prog w = .ok (.value (.tuple #[.int .u64 (s1:Nat),.int .u64 (c1:Nat)])) w:=rM lo z 0 s1 c1 (Nat.zero_le _) hs1 hc1
    have YR:∀ w,(callFunc 170 #[.int .u64 (s1:Nat),.int .u64 (cy:Nat),.int .u64 0]).run Tryz.prog w = .ok (.value (.tuple #[.int .u64 (s2:Nat),.int .u64 (c2:Nat)])) w:=rM s1 cy 0 s2 c2 (Nat.zero_le _) hs2 hc2
    have hw1:IntKind.u64.wrap ((Si:Int)+(c1:Int))=(Si:Int)+(c1:Int):=by rw [IntKind.wrap_u64];omega
    have hw2:IntKind.u64.wrap ((Si:Int)+(c1:Int)+(c2:Int))=(Si:Int)+(c1:Int)+(c2:Int):=by rw [IntKind.wrap_u64];omega
    obtain ⟨d,hd⟩:∃ d,Si+c1+c2=d:=⟨_,rfl⟩
    have hdi:(Si:Int)+(c1:Int)+(c2:Int)=(d:Int):=by omega
    rw [hd] at HST hd1
    clear hst htk wF hzz ht hhi hlo hs1 hc1 hs2 hc2 hm hown hB HO hd ht1
    go_wp2_with (fail)
    refine (hMul.out _).mono ?_
    rintro e w' ⟨rfl,rfl⟩
    clear hMul
    go_wp2
    go_roundw
    case rel=>exact ⟨i+1,_,d,by omega,by go_num,rfl,HST,hown2,hB2⟩
    case measure=>simp [intOf];omega
  · obtain rfl:i=na:=by omega
    rw [HT2.out] at HO
    have hcz:=hown.cell (j:=off+i) (by omega)
    have hf:=hown.frozen (off+i)
    have hown2:=hown.nO (off+i) cy
    have hB2:=hB.setCell (off+i) (.int .u64 (cy:Nat))
    have hl0:lb o' (off+i)=0:=by rw [HO.out.out _ (Nat.le_refl _)];exact H0.out
    have hws:=mZ o' (off+i) cy (by rw [HO.out.len];omega)
    rw [hl0,Nat.mul_zero,Nat.add_zero,HO.out.val] at hws
    have wN:(Value.int .u64 (lb o' (off+i):Nat)) = .int .u64 0:=by rw [hl0];rfl
    rw [wN] at hcz
    have HF:Hid (∃ o2,Ow (wr.setCell ⟨g,off+i,none⟩ (.int .u64 (cy:Nat))) base (.slice (some ⟨g,0,none⟩) n c) o2∧aU o2=aU o+BB^off*(aU cZ*yv)∧(∀ x∈o2,x<18446744073709551616)∧∀ m,off+i<m→lb o2 m=lb o m) :=
     ⟨_,hown2,hws,dY HO.out.lt HO.out.zT,fun m hm=>by rw [bX _ (by omega)];exact HO.out.out m (by omega)⟩
    have hii:(i:Int)<((i+1:Nat):Int):=by omega
    have hii2:(i:Int)<(i:Int)+1:=by omega
    clear hl0 hws wN hown hown2 HO hB hr
    go_wp2
    go_end0
    exact ⟨rfl,HF.out,hB2⟩
structure RsI (cZ bs:List Nat) (n:Nat) (i:Nat) (o:List Nat):Prop where
 len:o.length=n
 lt:∀ x∈o,x<18446744073709551616
 val:aU o=aU cZ*aU (bs.take i)
 out:∀ m,i+cZ.length≤m→lb o m=0
def Prod (w w':World) (x:Ending) (na nb:Nat) (cZ bs:List Nat):Prop :=
 ∃ g c o,x = .returned (.slice (some ⟨g,0,none⟩) (na+nb) c)∧Ow w' w.heap.size (.slice (some ⟨g,0,none⟩) (na+nb) c) o∧aU o=aU cZ*aU bs∧∀ x∈o,x<18446744073709551616
set_option maxRecDepth 100000 in
set_option maxHeartbeats 4000000 in
theorem Da (w:World) (q1 q2:Nat) (va vb:Value) (cZ bs:List Nat) (ha:V q1 w va cZ) (hb:V q2 w vb bs) (na nb:Nat) (hna:cZ.length=na) (hnb:bs.length=nb) (hm:na+nb≤100000) :
  Calls Tryz.prog 152 #[va,vb] w fun e w'=>Prod w w' e na nb cZ bs∧Ext w w':=by
 have hxb:=hb.lim
 obtain ⟨A,ca,rfl,hca⟩:=ha.shape
 obtain ⟨A2,cb,rfl,⟨hcb,hmb⟩,hx2,hr⟩:=id hb
 have YH:=Lib.hid hna
 have HNB:=Lib.hid hnb
 rw [hna] at ha hca ⊢
 rw [hnb] at hb hcb hr hmb ⊢
 obtain ⟨i0,hi,hz0,hz1,hz2⟩:=info_parts rO
 obtain ⟨n,hn⟩:∃ n,na+nb=n:=⟨_,rfl⟩
 have hni:(na:Int)+(nb:Int)=(n:Int):=by omega
 obtain ⟨B,hB⟩:∃ B,w.heap.size=B:=⟨_,rfl⟩
 have Dl:=Lib.hid hB
 have SQ:=Lib.hid (fun k=>gm bs k)
 have HT2:Hid (bs.take nb=bs):=by rw [Hid,← hnb];exact List.take_length
 unfold Prod
 rw [hB,hn]
 clear hna hnb
 go_enter Tryz.func152,Tryz.ntmps152
 go_wp2_with (at_make;refine wpList_make_full _ rfl _ _ 139 rfl w.heap.size 100 i0 (.int .u64 0) 1 Tryz.underlying139 hi hz0 hz1 _ _ _ _ n rfl rfl (by omega) (by omega) (by rw [hz2];omega) (by unfold maxLen;omega) (Nat.le_refl _) ?_;intro w1 hown hgrow)
 have ho0:=Ow.zeros hown
 have hE0:Ext w w1:=(Ext.refl w).grown hgrow (Nat.le_refl _) (fun _ h=>by cases h)
 rw [hB] at ho0
 have ha1:=(ha.new (g:=B) (by omega)).below hE0
 have hne:∀ ad,A2=some ad→0<nb→ad.block≠B:=fun ad e h0=>by
  obtain ⟨ZU,e',hb',_⟩:=hr h0
  rw [e'] at e
  injection e with e
  subst e;omega
 clear hown hgrow hi hz0 hz1 hz2 i0 ha hb
 go_wp2
 go_loopw [16] (fun t wr=>∃ (i:Nat) (o:List Nat),i≤nb∧t = .int .i64 (i:Nat)∧Hid (RsI cZ bs n i o)∧Ow wr B (.slice (some ⟨B,0,none⟩) n n) o∧Ext w wr∧V B wr (.slice A na ca) cZ) (fun t _=>nb-(intOf t).toNat)
 case atStart=>exact ⟨0,_,Nat.zero_le _,rfl,⟨by simp,fun x hx=>by simp at hx;omega,by simp [kL,aU],fun m _=>gZ _ _⟩,ho0,hE0,ha1⟩
 case round =>
  clear ho0 hE0 ha1
  obtain ⟨i,o,hib,rfl,HO,hown,hE,hav⟩:=hrel
  by_cases hlt:i<nb
  · obtain ⟨ad,rfl,hbk,hnq,hcell⟩:=hr (by omega)
    have hc0:=(hE.cell (p:=ad.add i) (by rw [aF];exact hbk)).trans (hcell i hlt)
    have hy:lb bs i<18446744073709551616:=dh (by decide) hx2 i
    have htk:=SQ.out i (by rw [HNB.out];exact hlt)
    obtain ⟨y,yZ⟩:∃ y,lb bs i=y:=⟨_,rfl⟩
    rw [yZ] at hc0 hy htk
    have aaC:=Lib.hid (Oe wr B B n n i (n-i) o cZ _ y hy hown HO.out.lt na YH.out (by omega) (by omega) (by omega) hav (HO.out.out _ (by rw [YH.out];exact Nat.le_refl _)))
    have hi1:(i:Int)+(na:Int)+1≤(n:Int):=by omega
    have hi2:(i:Int)≤(i:Int)+(na:Int)+1:=by omega
    have hi3:i≤n:=by omega
    have hi4:i+na+1-i=na+1:=by omega
    have hi5:((i:Int)+(na:Int)+1).toNat=i+na+1:=by omega
    clear yZ
    go_wp2_with (fail)
    refine aaC.out.mono ?_
    rintro e w' ⟨rfl,⟨o2,hown2,hv2,hl2,hout2⟩,hB2⟩
    have hE2:=hE.but hB2 (by omega)
    have aei:=hav.but hB2
    have HST:Hid (RsI cZ bs n (i+1) o2):=by
     refine ⟨hown2.caps.1.symm,hl2,?_,fun m hm=>?_⟩
     · rw [htk,Nat.mul_add,← HO.out.val,hv2,Nat.mul_left_comm]
     · rw [YH.out] at hm
       rw [hout2 m (by omega)];exact HO.out.out m (by rw [YH.out];omega)
    clear aaC hv2 hl2 hout2 hB2 hown HO hE hav htk
    go_wp2
    go_roundw
    case rel=>exact ⟨i+1,_,by omega,by go_num,HST,hown2,hE2,aei⟩
    case measure=>simp [intOf];omega
  · obtain rfl:i=nb:=by omega
    have HF:Hid (∃ g c o,Ending.returned (.slice (some ⟨B,0,none⟩) n n) = .returned (.slice (some ⟨g,0,none⟩) n c)∧Ow wr B (.slice (some ⟨g,0,none⟩) n c) o∧aU o=aU cZ*aU bs∧∀ x∈o,x<18446744073709551616) :=
     ⟨B,n,o,rfl,hown,by rw [HO.out.val,HT2.out],HO.out.lt⟩
    clear hown HO hav
    go_wp2
    go_ret
    exact ⟨HF.out,hE⟩
end Go.Proofs.YtdpmbgomcjnohaaGreatDoor
/- A word of a quotient, guessed by three words of what is divided and two of the divisor. -/
namespace Go.Proofs.YtdpmbgomcjnohaaGreatDoor
open Go.RowKit
set_option linter.unusedVariables false
set_option maxHeartbeats 400000
structure Gp (V U v1 t1 q r:Nat):Prop where
 inv:q*v1+r=t1
 top:U<(q+1)*V
 lt:q<18446744073709551616
theorem OQ (s vs:List Nat) (k q r v1 t1:Nat) (hs:s.length=k+2) (hv:vs.length=k+1) (hx:∀ x∈s,x<18446744073709551616) (hv1:lb vs k=v1) (ht:lb s (k+1)*18446744073709551616+lb s k=t1) (hq:q*v1+r=t1) (hr:r<v1)
  (hlt:q<18446744073709551616):Gp (aU vs) (aU s) v1 t1 q r:=by
 refine ⟨hq,?_,hlt⟩
 have h1:=wC s k hs
 have h2:=zU vs k hv
 have h3:=rH s k (by omega) hx
 have ht':lb s (k+1)*BB+lb s k=t1:=ht
 rw [ht'] at h1
 rw [hv1] at h2
 have h4:t1+1≤(q+1)*v1:=by rw [Nat.add_mul,Nat.one_mul];omega
 have h5:=Nat.mul_le_mul_right (BB^k) h4
 have h6:(q+1)*aU vs=(q+1)*v1*BB^k+(q+1)*aU (vs.take k):=by rw [h2,Nat.mul_add,Nat.mul_assoc]
 rw [Nat.add_mul t1,Nat.one_mul] at h5
 omega
theorem Tv (V U v1 u1 t1:Nat) (h1:v1*18446744073709551616+u1=t1) (hUV:U<BB*V):Gp V U v1 t1 18446744073709551615 (u1+v1) :=
 ⟨by omega,by simpa [BB] using hUV,by decide⟩
theorem Vw {V U v1 t1 q r:Nat} (h:Gp V U v1 t1 q r) (P D T v0 u0:Nat):GsI BB P D T V U v1 v0 t1 u0 q r:=⟨h.inv,h.top,h.lt⟩
theorem Tw (s vs:List Nat) (k q r v1 v0 u0 t1:Nat) (hs:s.length=k+3) (hv:vs.length=k+2) (hx:∀ x∈s,x<18446744073709551616) (hv1:lb vs (k+1)=v1) (hv0:lb vs k=v0) (hu0:lb s k=u0)
  (ht:lb s (k+2)*18446744073709551616+lb s (k+1)=t1) (h:Gp (aU vs) (aU s) v1 t1 q r) (hgt:r*18446744073709551616+u0<q*v0):1≤q∧Gp (aU vs) (aU s) v1 t1 (q-1) (r+v1):=by
 have h1:=DX s k hs
 have h2:=wC vs k hv
 have h3:=rH s k (by omega) hx
 have ht':lb s (k+2)*BB+lb s (k+1)=t1:=ht
 rw [ht',hu0] at h1
 rw [hv1,hv0] at h2
 obtain ⟨a,b⟩:=Tj BB (BB^k) (v1*BB+v0) (t1*BB+u0) (aU vs) (aU s) v1 v0 (aU (vs.take k)) t1 u0 (aU (s.take k)) q r rfl rfl h2 h1 h3 (Vw h _ _ _ _ _) hgt
 exact ⟨a,b.inv,b.top,b.lt⟩
theorem Wv (s vs:List Nat) (k q r v1 v0 u0 t1:Nat) (hs:s.length=k+3) (hv:vs.length=k+2) (hx:∀ x∈vs,x<18446744073709551616) (hv1:lb vs (k+1)=v1) (hv0:lb vs k=v0) (hu0:lb s k=u0)
  (ht:lb s (k+2)*18446744073709551616+lb s (k+1)=t1) (h:Gp (aU vs) (aU s) v1 t1 q r) (h1v:1≤v1) (hle:q*v0≤r*18446744073709551616+u0):q*aU vs≤aU s+aU vs:=by
 have h1:=DX s k hs
 have h2:=wC vs k hv
 have h3:=rH vs k (by omega) hx
 have ht':lb s (k+2)*BB+lb s (k+1)=t1:=ht
 rw [ht',hu0] at h1
 rw [hv1,hv0] at h2
 exact Wo BB (BB^k) (v1*BB+v0) (t1*BB+u0) (aU vs) (aU s) v1 v0 (aU (vs.take k)) t1 u0 (aU (s.take k)) q r rfl rfl h2 h1 (by omega) (by have:=Nat.mul_le_mul_right BB h1v;omega) (Vw h _ _ _ _ _) hle
theorem Ww (s vs:List Nat) (q r v1 t1:Nat) (hs:s.length=2) (hv:vs.length=1) (hv1:lb vs 0=v1) (ht:lb s 1*18446744073709551616+lb s 0=t1) (h:Gp (aU vs) (aU s) v1 t1 q r):q*aU vs≤aU s+aU vs:=by
 have h1:=wC s 0 hs
 have h2:=zU vs 0 hv
 have ht':lb s (0+1)*BB+lb s 0=t1:=ht
 rw [ht',Nat.pow_zero,List.take_zero] at h1
 rw [hv1,Nat.pow_zero,List.take_zero] at h2
 have e0:aU []=0:=rfl
 rw [e0] at h1 h2
 rw [h2,h1]
 have:=h.inv
 simp only [Nat.mul_one,Nat.add_zero]
 omega
theorem wE {k:Nat} (h:k≤1000000):IntKind.i64.wrap (k:Int)=(k:Int):=by rw [IntKind.wrap_i64];omega
theorem jW {k:Nat} (h:k<18446744073709551616):IntKind.u64.wrap (k:Int)=(k:Int):=by rw [IntKind.wrap_u64];omega
theorem kU {k:Nat} (h:k<18446744073709551616):(k:Int)%18446744073709551616=(k:Int):=by omega
theorem sub_one (z y s c:Nat) (hz:z<18446744073709551616) (hy:y<18446744073709551616) (hs:(z+18446744073709551616-y-0)%18446744073709551616=s) (hc:(if z<y+0 then 1 else 0)=c):s+y=z+18446744073709551616*c:=by
 split at hc<;>omega
theorem YM {w x y:World} {p q:Addr} {v1 v2:Value} (hp:p.block<w.heap.size) (hq:q.block<w.heap.size) (h:(x.cell? p=some v1∧x.cell? q=some v2)∧Ext w x) (hB:Ext x y):(y.cell? p=some v1∧y.cell? q=some v2)∧Ext w y:=by
 obtain ⟨⟨h0,h1⟩,h2⟩:=h
 have hs:=h2.size
 exact ⟨⟨by rw [hB.cell (by omega)];exact h0,by rw [hB.cell (by omega)];exact h1⟩,h2.below hB⟩
set_option maxRecDepth 100000 in
set_option maxHeartbeats 8000000 in
theorem Gz (w:World) (g1 g2:Nat) (vu vv:Value) (s vs:List Nat) (hu:V g1 w vu s) (hv:V g2 w vv vs) (n k:Nat) (hk:n=k+1) (hs:s.length=n+1) (hvs:vs.length=n) (hn:n≤1000000)
  (top:9223372036854775808≤lb vs k) (hlt:aU s<BB*aU vs) :
  Calls Tryz.prog 212 #[vu,vv] w fun e w'=>(∃ q,e = .returned (.int .u64 (q:Nat))∧q<18446744073709551616∧aU s<(q+1)*aU vs∧q*aU vs≤aU s+aU vs)∧Ext w w':=by
 have hxs:=hu.lim
 have hxv:=hv.lim
 have hle:=Wu s vs k (by omega) (by omega) hxv hlt
 obtain ⟨au,cu,rfl,hcu,hbu,hgu,EF⟩:=hu.opened (n:=n+1) hs (by omega)
 obtain ⟨av,cv,rfl,hcv,hbv,hgv,xW⟩:=hv.opened (n:=n) hvs (by omega)
 obtain ⟨v1,hv1⟩:∃ v1,lb vs k=v1:=⟨_,rfl⟩
 obtain ⟨u1,hu1⟩:∃ u1,lb s k=u1:=⟨_,rfl⟩
 obtain ⟨u2,hu2⟩:∃ u2,lb s (k+1)=u2:=⟨_,rfl⟩
 obtain ⟨t1,ht1⟩:∃ t1,u2*18446744073709551616+u1=t1:=⟨_,rfl⟩
 have cv1:=xW k (by omega)
 have cu1:=EF k (by omega)
 have cu2:=EF n (by omega)
 have zI:v1<18446744073709551616:=by rw [← hv1];exact dh (by decide) hxv k
 have Nj:u1<18446744073709551616:=by rw [← hu1];exact dh (by decide) hxs k
 have OT:u2<18446744073709551616:=by rw [← hu2];exact dh (by decide) hxs (k+1)
 rw [hv1] at cv1 hle top
 rw [hu1] at cu1
 rw [hk] at cu2
 rw [hu2,← hk] at cu2
 rw [hu2] at hle
 have HA:Hid (∀ q r,q*v1+r=t1→r<v1→q<18446744073709551616→Gp (aU vs) (aU s) v1 t1 q r):=fun q r h1 h2 h3=>OQ s vs k q r v1 t1 (by omega) (by omega) hxs hv1 (by rw [hu2,hu1];exact ht1) h1 h2 h3
 have HF:Hid (u2=v1→Gp (aU vs) (aU s) v1 t1 18446744073709551615 (u1+v1)):=fun e=>Tv _ _ v1 u1 t1 (by rw [← e];exact ht1) hlt
 have HD:Hid (∀ j v0 u0 q r,n=j+2→lb vs j=v0→lb s j=u0→Gp (aU vs) (aU s) v1 t1 q r→r*18446744073709551616+u0<q*v0→1≤q∧Gp (aU vs) (aU s) v1 t1 (q-1) (r+v1)):=fun j v0 u0 q r hj h1 h2 h3 h4 =>
  Tw s vs j q r v1 v0 u0 t1 (by omega) (by omega) hxs (by rw [← hv1];congr 1;omega) h1 h2 (by rw [show j+2=k+1 by omega,show j+1=k by omega,hu2,hu1];exact ht1) h3 h4
 have HE:Hid (∀ j v0 u0 q r,n=j+2→lb vs j=v0→lb s j=u0→Gp (aU vs) (aU s) v1 t1 q r→q*v0≤r*18446744073709551616+u0→q*aU vs≤aU s+aU vs):=fun j v0 u0 q r hj h1 h2 h3 h4 =>
  Wv s vs j q r v1 v0 u0 t1 (by omega) (by omega) hxv (by rw [← hv1];congr 1;omega) h1 h2 (by rw [show j+2=k+1 by omega,show j+1=k by omega,hu2,hu1];exact ht1) h3 (by omega) h4
 have HO:Hid (n=1→∀ q r,Gp (aU vs) (aU s) v1 t1 q r→q*aU vs≤aU s+aU vs):=fun e q r h=>by
  have e0:k=0:=by omega
  rw [e0] at hv1 hu1 hu2
  exact Ww s vs q r v1 t1 (by omega) (by omega) hv1 (by rw [hu2,hu1];exact ht1) h
 have HDV:Hid (u2<v1→∃ q r,(u2*18446744073709551616+u1)/v1=q∧(u2*18446744073709551616+u1)%v1=r∧q*v1+r=t1∧r<v1∧q<18446744073709551616):=fun h=>by
  refine ⟨_,_,rfl,rfl,by rw [← ht1,Nat.mul_comm (_/_)];exact Nat.div_add_mod _ _,Nat.mod_lt _ (by omega),?_⟩
  exact Nat.div_lt_of_lt_mul (by have:=Nat.mul_le_mul_right 18446744073709551616 (show u2+1≤v1 from h);omega)
 have HLV:Hid (∀ j,lb vs j<18446744073709551616):=fun j=>dh (by decide) hxv j
 have HLS:Hid (∀ j,lb s j<18446744073709551616):=fun j=>dh (by decide) hxs j
 have HCV:=Lib.hid xW
 have HCU:=Lib.hid EF
 have e1:(n:Int)-1=(k:Int):=by omega
 have e2:k<n:=by omega
 have e3:(n:Int)<(n:Int)+1:=by omega
 have e4:(k:Int)<(n:Int)+1:=by omega
 have e5:k<n+1:=by omega
 obtain ⟨r0,hr0⟩:∃ r0,(u1+v1)%18446744073709551616=r0:=⟨_,rfl⟩
 have a1:((u1:Int)+(v1:Int))%18446744073709551616=(r0:Int):=by omega
 have a2:IntKind.u64.wrap ((u1:Int)+(v1:Int))=(r0:Int):=by rw [IntKind.wrap_u64];exact a1
 have OU:r0<18446744073709551616:=by omega
 have a3:IntKind.u64.wrap (r0:Int)=(r0:Int):=by rw [IntKind.wrap_u64];omega
 have Yv:=Lib.hid hr0
 have HT:=Lib.hid (And.intro zI (And.intro Nj (And.intro OT (And.intro hle (And.intro top OU)))))
 have k1:=wE (show k≤1000000 by omega)
 have k2:=wE hn
 have k3:(0:Int)≤(k:Int):=Int.natCast_nonneg k
 have k4:(0:Int)≤(n:Int):=Int.natCast_nonneg n
 have hE0:=Ext.refl w
 have HK:=Lib.hid hk
 clear hk hxs hxv hlt hv hu hs hvs EF xW hu1 hu2 hv1 ht1 zI Nj OT hle top hr0 OU hcu hcv hgu hgv
 obtain ⟨b0,hb0⟩:∃ b0:Bool,decide (r0<v1)=b0:=⟨_,rfl⟩
 have HB0:=Lib.hid hb0
 go_enter Tryz.func212,Tryz.ntmps212
 go_wp2
 go_step3
 go_wp2_with (fail)
 go_region
 go_upto_if 34 with (fail)
 have hS0:(w.drew.drew.cell? (au.add n)=some (.int .u64 (u2:Nat))∧w.drew.drew.cell? (au.add k)=some (.int .u64 (u1:Nat)))∧Ext w w.drew.drew:=⟨⟨cu2,cu1⟩,hE0.drew.drew⟩
 have hpn:(au.add n).block<w.heap.size:=by rw [aF];exact hbu
 have hpk:(au.add k).block<w.heap.size:=by rw [aF];exact hbu
 go_cut [7,8,9] from 12 (fun s7 s8 s9 wx=>∃ (q r r':Nat) (b:Bool),s7 = .int .u64 (q:Nat)∧s8 = .int .u64 (r':Nat)∧s9 = .bool b∧Hid (Gp (aU vs) (aU s) v1 t1 q r∧r%18446744073709551616=r'∧decide (18446744073709551616≤r)=b)∧Ext w wx)
 case first =>
  obtain ⟨zI,Nj,OT,hle,top,OU⟩:=HT.out
  by_cases h:u2<v1
  · obtain ⟨q,r,h1,h2,h3,h4,h5⟩:=HDV.out h
    have hdv:=Lib.hid (fun W=>Gx W u2 u1 v1 q r top zI Nj h h1 h2)
    have HG:Hid (Gp (aU vs) (aU s) v1 t1 q r∧r%18446744073709551616=r∧decide (18446744073709551616≤r)=false):=⟨HA.out q r h3 h4 h5,Nat.mod_eq_of_lt (by omega),by rw [decide_eq_false_iff_not];omega⟩
    clear zI Nj OT hle top OU h1 h2 h3 h4 h5
    go_wp2_with (fail)
    go_region_held3 (fun X=>(X.cell? (au.add n)=some (.int .u64 (u2:Nat))∧X.cell? (au.add k)=some (.int .u64 (u1:Nat)))∧Ext w X)
     (first
      | exact hS0
      | exact YM hpn hpk (by assumption) (by assumption))
     (first
      | (go_at_call 208;((with_reducible refine (hdv.out _).mono ?_);rintro e w1 ⟨rfl,hB⟩)))
    go_wp2_with (fail)
    go_meet
    case rel =>
     go_split_ands
     exact ⟨q,r,r,false,rfl,rfl,rfl,HG,by assumption⟩
  · have e:u2=v1:=by omega
    have HG:Hid (Gp (aU vs) (aU s) v1 t1 18446744073709551615 (u1+v1)∧(u1+v1)%18446744073709551616=r0∧decide (18446744073709551616≤u1+v1)=b0):=⟨HF.out e,Yv.out,by rw [← HB0.out];have:=Yv.out;exact decide_eq_decide.2 ⟨fun g=>by omega,fun g=>by omega⟩⟩
    clear zI Nj OT hle top OU e
    go_wp2_with (fail)
    go_meet
    case rel=>exact ⟨18446744073709551615,u1+v1,r0,b0,rfl,rfl,rfl,HG,hE0.drew⟩
 case rest =>
  obtain ⟨q,r,r',b,rfl,rfl,rfl,HG,hE⟩:=hcut
  clear hS0 cu1 cu2 cv1 a1 a2 a3 hE0 hb0 HDV HA HF HB0 Yv
  by_cases h1:n=1
  · have hn1:((n:Int)==1)=true:=by rw [beq_iff_eq];omega
    have SN:Hid (∃ q',Ending.returned (.int .u64 (q:Nat)) = .returned (.int .u64 (q':Nat))∧q'<18446744073709551616∧aU s<(q'+1)*aU vs∧q'*aU vs≤aU s+aU vs):=⟨q,rfl,HG.out.1.lt,HG.out.1.top,HO.out h1 q r HG.out.1⟩
    clear HG HD HE HO hpn hpk
    go_wp2
    rw [Exit.noGoto_ret]
    go_ret
    exact ⟨SN.out,hE⟩
  · obtain ⟨j,hj⟩:∃ j,n=j+2:=⟨n-2,by have:=HK.out;omega⟩
    have hn1:((n:Int)==1)=false:=by rw [beq_eq_false_iff_ne];omega
    have hn2:¬ ((n:Int)=1):=by omega
    obtain ⟨v0,hv0⟩:∃ v0,lb vs j=v0:=⟨_,rfl⟩
    obtain ⟨u0,hu0⟩:∃ u0,lb s j=u0:=⟨_,rfl⟩
    have cv0:=HCV.out j (by omega)
    have cu0:=HCU.out j (by omega)
    have AO:=HLV.out j
    have EG:=HLS.out j
    rw [hv0] at cv0 AO
    rw [hu0] at cu0 EG
    have HD2:=Lib.hid (fun q r=>HD.out j v0 u0 q r hj hv0 hu0)
    have HE2:=Lib.hid (fun q r=>HE.out j v0 u0 q r hj hv0 hu0)
    have f1:(n:Int)-2=(j:Int):=by omega
    have f2:j<n:=by omega
    have f3:j<n+1:=by omega
    have HB:=Lib.hid (And.intro AO EG)
    have hpv:(av.add j).block<w.heap.size:=by rw [aF];exact hbv
    have hpu:(au.add j).block<w.heap.size:=by rw [aF];exact hbu
    clear hj hv0 hu0 AO EG HD HE HO HCV HCU HLV HLS HK
    go_wp2
    go_step3
    go_wp2
    go_loopw [7,8,9] (fun s7 s8 s9 wr=>∃ (q r r':Nat) (b:Bool),s7 = .int .u64 (q:Nat)∧s8 = .int .u64 (r':Nat)∧s9 = .bool b∧Hid (Gp (aU vs) (aU s) v1 t1 q r∧r%18446744073709551616=r'∧decide (18446744073709551616≤r)=b)∧Ext w wr) (fun s7 _ _ _=>(intOf s7).toNat)
    case atStart=>exact ⟨q,r,r',b,rfl,rfl,rfl,HG,hE⟩
    case round =>
     clear HG hE
     obtain ⟨q,r,r',b,rfl,rfl,rfl,HG,hE⟩:=hrel
     obtain ⟨hg,hr,hb⟩:=HG.out
     obtain ⟨AO,EG⟩:=HB.out
     obtain ⟨zI,-⟩:=HT.out
     have Ot:=hg.lt
     cases b with
     | true =>
      rw [decide_eq_true_iff] at hb
      have SN:Hid (∃ q',Ending.returned (.int .u64 (q:Nat)) = .returned (.int .u64 (q':Nat))∧q'<18446744073709551616∧aU s<(q'+1)*aU vs∧q'*aU vs≤aU s+aU vs):=⟨q,rfl,Ot,hg.top,HE2.out q r hg (by
       have e1:q*v0≤18446744073709551616*18446744073709551616:=Nat.mul_le_mul (by omega) (by omega)
       have e2:18446744073709551616*18446744073709551616≤r*18446744073709551616:=Nat.mul_le_mul_right _ hb
       omega)⟩
      clear hg hr hb AO EG zI Ot HG HD2 HE2
      go_wp2
      rw [Exit.noGoto_ret]
      go_ret
      exact ⟨SN.out,hE⟩
     | false =>
      rw [decide_eq_false_iff_not] at hb
      obtain rfl:r'=r:=by omega
      have aha:=(hE.cell hpv).trans cv0
      have ahb:=(hE.cell hpu).trans cu0
      obtain ⟨p,hp⟩:∃ p,q*v0=p:=⟨_,rfl⟩
      have hpb:p≤340282366920938463426481119284349108225:=by rw [← hp];exact Wx Ot AO
      obtain ⟨ph,Tx⟩:∃ ph,p/18446744073709551616=ph:=⟨_,rfl⟩
      obtain ⟨pl,hpl⟩:∃ pl,p%18446744073709551616=pl:=⟨_,rfl⟩
      have hMul:Hid (∀ W,Calls Tryz.prog 181 #[.int .u64 (q:Nat),.int .u64 (v0:Nat)] W fun e w'=>e = .returned (.tuple #[.int .u64 (ph:Nat),.int .u64 (pl:Nat)])∧w'=W):=by
       intro W
       have:=rJ q v0 Ot AO W
       rw [hp,Tx,hpl] at this
       exact this
      by_cases hle:p≤r'*18446744073709551616+u0
      · have SN:Hid (∃ q',Ending.returned (.int .u64 (q:Nat)) = .returned (.int .u64 (q':Nat))∧q'<18446744073709551616∧aU s<(q'+1)*aU vs∧q'*aU vs≤aU s+aU vs):=⟨q,rfl,Ot,hg.top,HE2.out q r' hg (by rw [hp];exact hle)⟩
        rcases (show ph<r'∨ph=r'∧pl≤u0 by omega) with h | ⟨h,h2⟩
        · clear hle hpb Tx hpl hp Ot hg hr hb AO EG zI HG HD2 HE2
          go_wp2_with (fail)
          refine (hMul.out _).mono ?_
          rintro e w' ⟨rfl,rfl⟩
          clear hMul
          go_wp2
          rw [Exit.noGoto_ret]
          go_ret
          exact ⟨SN.out,hE⟩
        · subst h
          have h3:¬ ph<ph:=by omega
          have h4:((ph:Int)==(ph:Int))=true:=by rw [beq_iff_eq]
          clear hle hpb Tx hpl hp Ot hg hr hb AO EG zI HG HD2 HE2
          go_wp2_with (fail)
          refine (hMul.out _).mono ?_
          rintro e w' ⟨rfl,rfl⟩
          clear hMul
          go_wp2
          rw [Exit.noGoto_ret]
          go_ret
          exact ⟨SN.out,hE⟩
      · obtain ⟨hq1,hg2⟩:=HD2.out q r' hg (by rw [hp];omega)
        obtain ⟨q2,hq2⟩:∃ q2,q-1=q2:=⟨_,rfl⟩
        rw [hq2] at hg2
        obtain ⟨r2,hr2⟩:∃ r2,(r'+v1)%18446744073709551616=r2:=⟨_,rfl⟩
        obtain ⟨b2,hb2⟩:∃ b2:Bool,decide (r2<v1)=b2:=⟨_,rfl⟩
        have HG2:Hid (Gp (aU vs) (aU s) v1 t1 q2 (r'+v1)∧(r'+v1)%18446744073709551616=r2∧decide (18446744073709551616≤r'+v1)=b2):=⟨hg2,hr2,by rw [← hb2];exact decide_eq_decide.2 ⟨fun g=>by omega,fun g=>by omega⟩⟩
        have g1:(q:Int)-1=(q2:Int):=by omega
        have g2:(q2:Int)%18446744073709551616=(q2:Int):=by omega
        have g3:IntKind.u64.wrap (q2:Int)=(q2:Int):=by rw [IntKind.wrap_u64];omega
        have g4:((r':Int)+(v1:Int))%18446744073709551616=(r2:Int):=by omega
        have g5:IntKind.u64.wrap ((r':Int)+(v1:Int))=(r2:Int):=by rw [IntKind.wrap_u64];exact g4
        have HQ:Hid (q2<q):=by show q2<q;omega
        have h3:¬ ph<r':=by omega
        rcases (show ¬ ph=r'∨ph=r'∧¬ pl≤u0 by omega) with h | ⟨h,h2⟩
        · have h4:((ph:Int)==(r':Int))=false:=by rw [beq_eq_false_iff_ne];omega
          clear hle hpb Tx hpl hp Ot hg hr hb AO EG zI HG HD2 HE2 hq1 hg2 hq2 hr2
          go_wp2_with (fail)
          refine (hMul.out _).mono ?_
          rintro e w' ⟨rfl,rfl⟩
          clear hMul
          go_wp2
          go_roundw
          case rel=>exact ⟨q2,r'+v1,r2,b2,rfl,rfl,by first | rfl | exact congrArg Value.bool hb2,HG2,hE⟩
          case measure=>have:=HQ.out;simp [intOf];omega
        · subst h
          have h4:((ph:Int)==(ph:Int))=true:=by rw [beq_iff_eq]
          have h5:decide ((pl:Int)≤(u0:Int))=false:=by rw [decide_eq_false_iff_not];omega
          clear hle hpb Tx hpl hp Ot hg hr hb AO EG zI HG HD2 HE2 hq1 hg2 hq2 hr2
          go_wp2_with (fail)
          refine (hMul.out _).mono ?_
          rintro e w' ⟨rfl,rfl⟩
          clear hMul
          go_wp2
          go_roundw
          case rel=>exact ⟨q2,ph+v1,r2,b2,rfl,rfl,by first | rfl | exact congrArg Value.bool hb2,HG2,hE⟩
          case measure=>have:=HQ.out;simp [intOf];omega
end Go.Proofs.YtdpmbgomcjnohaaGreatDoor
/- A word of a quotient, and what is left. -/
namespace Go.Proofs.YtdpmbgomcjnohaaGreatDoor
open Go.RowKit
set_option linter.unusedVariables false
set_option maxHeartbeats 400000
theorem OV (g off j:Nat):(⟨g,off,none⟩:Addr).add j=⟨g,off+j,none⟩:=by
 unfold Addr.add
 by_cases h:j=0<;>simp [h]
theorem Ow.part {w:World} {base g n c:Nat} {pre s post:List Nat} (h:Ow w base (.slice (some ⟨g,0,none⟩) n c) (Sg pre s post)) {off m zc:Nat} (hpre:pre.length=off) (hs:s.length=m) (hx:∀ x∈s,x<18446744073709551616) (hn:n≤1000000) (hzc:m≤zc) (q:Nat) (hq:g≠q) :
  V q w (.slice (some ⟨g,off,none⟩) m zc) s:=by
 obtain ⟨e,h1,h2⟩:=h.caps
 rw [Jz] at e
 refine ⟨_,zc,by rw [hs],⟨by omega,by omega⟩,hx,fun h0=>⟨_,rfl,h.block.2,hq,fun j hj=>?_⟩⟩
 rw [OV,h.cell (j:=off+j) (by omega),Gy _ _ _ _ _ hpre hj]
theorem YN (n T:Nat) (s0 s:List Nat) (bo t:Nat) (h:Vv (n+1) (aU s0) T n s0 s bo) (ht:lb s0 n=t) (hb:t<bo):aU s0<T:=by
 have h1:=qA s n h.len h.lt
 rw [h.out n (Nat.le_refl _),ht] at h1
 have h2:=h.val
 have h3:BB^n*(t+1)≤BB^n*bo:=Nat.mul_le_mul_left _ hb
 omega
theorem Ty (V q A S:Nat) (h:S+V*q=A) (ht:A<(q+1)*V):q*V+S=A∧S<V:=by
 rw [Nat.mul_comm V q] at h
 rw [Nat.add_mul,Nat.one_mul] at ht
 omega
theorem Tz (V q1 A S:Nat) (h:S+q1*V=A) (ht:A<V*(q1+1)):q1*V+S=A∧S<V:=by
 rw [Nat.mul_add,Nat.mul_one,Nat.mul_comm V q1] at ht
 omega
set_option maxRecDepth 100000 in
set_option maxHeartbeats 8000000 in
theorem GG (w:World) (g base N c off zc:Nat) (pre s post vs:List Nat) (vv:Value) (hown:Ow w base (.slice (some ⟨g,0,none⟩) N c) (Sg pre s post)) (hx:∀ x∈s,x<18446744073709551616) (hpre:pre.length=off)
  (m k:Nat) (hk:m=k+1) (hs:s.length=m+1) (hvs:vs.length=m) (hzc:m+1≤zc) (hN:N≤1000000) (hv:V g w vv vs) (top:9223372036854775808≤lb vs k) (hlt:aU s<BB*aU vs) :
  Calls Tryz.prog 203 #[.slice (some ⟨g,off,none⟩) (m+1:Nat) zc,vv] w fun e w'=>(∃ q s',e = .returned (.int .u64 (q:Nat))∧q<18446744073709551616∧s'.length=m+1∧(∀ x∈s',x<18446744073709551616)∧q*aU vs+aU s'=aU s∧aU s'<aU vs ∧
   Ow w' base (.slice (some ⟨g,0,none⟩) N c) (Sg pre s' post))∧But g w w':=by
 obtain ⟨hcap,hcap1,hcap2⟩:=hown.caps
 rw [Jz,hpre,hs] at hcap
 have hu:V (g+1) w (.slice (some ⟨g,off,none⟩) (m+1) zc) s:=hown.part hpre hs hx hN hzc (g+1) (by omega)
 have hGu:=Lib.hid (Gz w (g+1) g _ vv s vs hu hv m k hk hs hvs (by omega) top hlt)
 have hgb:=hown.block.2
 have EH:=Lib.hid hpre
 have HS:=Lib.hid hs
 have hxv:=hv.lim
 have YO:Hid (∀ j,lb vs j<18446744073709551616):=fun j=>dh (by decide) hxv j
 have SQ:=Lib.hid (fun j (h:j<m)=>gm vs j (by omega))
 have HT2:Hid (vs.take m=vs):=by rw [Hid,← hvs];exact List.take_length
 have HD0:Hid (∀ q,Vv (m+1) (aU s) (aU (vs.take 0)*q) 0 s s 0):=fun q=>⟨hs,hx,by decide,by simp [aU],fun m _=>rfl⟩
 have HT0:Hid (lb s m<18446744073709551616):=dh (by decide) hx m
 obtain ⟨t,ht⟩:∃ t,lb s m=t:=⟨_,rfl⟩
 have HT:=Lib.hid ht
 have hoff:off+m<N:=by omega
 have hm1:m≤1000000:=by omega
 obtain ⟨av,cv,rfl,hcv,hbv,hgv,xW⟩:=hv.opened (n:=m) hvs (by omega)
 have hmi:((m+1:Nat):Int)=(m:Int)+1:=by omega
 have e3:(m:Int)<(m:Int)+1:=by omega
 have e4:m≤zc:=by omega
 have e5:(m:Int)≤(zc:Int):=by omega
 clear hu hv hx hpre hs hvs top hlt hcap hcap1 hcap2 ht hxv hk
 go_enter Tryz.func203,Tryz.ntmps203
 go_wp2_with (fail)
 refine hGu.out.mono ?_
 rintro e w1 ⟨⟨q,rfl,hq,hq1,hq2⟩,hB⟩
 have hB0:But g w w1:=(But.refl g w).ext hB
 replace hown:=hown.ext hB
 have HQ1:=Lib.hid hq1
 have HQ2:=Lib.hid hq2
 clear hB hq1 hq2 hGu
 go_wp2
 go_loopw [29,7] (fun t7 s7 wr=>∃ (i:Nat) (s':List Nat) (bo:Nat),i≤m∧t7 = .int .i64 (i:Nat)∧s7 = .int .u64 (bo:Nat)∧Hid (Vv (m+1) (aU s) (aU (vs.take i)*q) i s s' bo)∧Ow wr base (.slice (some ⟨g,0,none⟩) N c) (Sg pre s' post)∧But g w wr) (fun t7 _ _=>m-(intOf t7).toNat)
 case atStart=>exact ⟨0,s,0,Nat.zero_le _,rfl,rfl,HD0.out q,hown,hB0⟩
 case round =>
  clear hown hB0
  obtain ⟨i,s',bo,hi,rfl,rfl,HO,hown,hB⟩:=hrel
  by_cases hlt:i<m
  · have hc0:=(hB.cell (p:=av.add i) (by rw [aF];exact hbv) (by rw [aF];exact hgv)).trans (xW i hlt)
    have hy:=YO.out i
    have htk:=SQ.out i hlt
    have hl:=HO.out.len
    have hcz:=hown.cell (j:=off+i) (by omega)
    rw [Gy _ _ _ _ _ EH.out (by omega)] at hcz
    have hf:=hown.frozen (off+i)
    have hx1:lb s' i<18446744073709551616:=dh (by decide) HO.out.lt _
    have hcy:=HO.out.b1
    obtain ⟨x,wF⟩:∃ x,lb vs i=x:=⟨_,rfl⟩
    rw [wF] at hc0 hy htk
    obtain ⟨z,hzz⟩:∃ z,lb s' i=z:=⟨_,rfl⟩
    rw [hzz] at hcz hx1
    obtain ⟨p,hp⟩:∃ p,x*q=p:=⟨_,rfl⟩
    have hp1:p≤340282366920938463426481119284349108225:=by rw [← hp];exact Wx hy hq
    obtain ⟨ph,Tx⟩:∃ ph,p/18446744073709551616=ph:=⟨_,rfl⟩
    obtain ⟨pl,hpl⟩:∃ pl,p%18446744073709551616=pl:=⟨_,rfl⟩
    obtain ⟨s1,hs1⟩:∃ s1,(z+18446744073709551616-pl-0)%18446744073709551616=s1:=⟨_,rfl⟩
    obtain ⟨c1,hc1⟩:∃ c1,(if z<pl+0 then 1 else 0)=c1:=⟨_,rfl⟩
    obtain ⟨s2,hs2⟩:∃ s2,(s1+18446744073709551616-bo-0)%18446744073709551616=s2:=⟨_,rfl⟩
    obtain ⟨c2,hc2⟩:∃ c2,(if s1<bo+0 then 1 else 0)=c2:=⟨_,rfl⟩
    have Wy:pl<18446744073709551616:=by rw [← hpl];exact Nat.mod_lt _ (by decide)
    have Wz:s1<18446744073709551616:=by rw [← hs1];exact Nat.mod_lt _ (by decide)
    have WA:s2<18446744073709551616:=by rw [← hs2];exact Nat.mod_lt _ (by decide)
    have q1:s1+pl=z+18446744073709551616*c1:=sub_one z pl s1 c1 hx1 Wy hs1 hc1
    have q2:s2+bo=s1+18446744073709551616*c2:=sub_one s1 bo s2 c2 Wz hcy hs2 hc2
    obtain ⟨YP,Nk,TA⟩:=Tk x q bo z s1 c1 s2 c2 ph pl (ph+c1+c2) hy hq hcy hx1 (by rw [hp,← Tx,← hpl];exact (Nat.div_add_mod _ _).symm) Wy q1 Wz q2 WA rfl
    have hst:=HO.out.step (by omega) p s2 (ph+c1+c2) (by rw [hzz,← hp];exact YP) WA Nk
    rw [← hp,← Nat.mul_assoc,← Nat.add_mul,← htk] at hst
    have HST:=Lib.hid hst
    have hown2:=hown.nO (off+i) s2
    rw [AL _ _ _ _ _ _ EH.out (by omega)] at hown2
    have hB2:=hB.setCell (off+i) (.int .u64 (s2:Nat))
    have hMul:Hid (∀ W,Calls Tryz.prog 181 #[.int .u64 (x:Nat),.int .u64 (q:Nat)] W fun e w'=>e = .returned (.tuple #[.int .u64 (ph:Nat),.int .u64 (pl:Nat)])∧w'=W):=by
     intro W
     have:=rJ x q hy hq W
     rw [hp,Tx,hpl] at this
     exact this
    have YQ:∀ w,(callFunc 205 #[.int .u64 (z:Nat),.int .u64 (pl:Nat),.int .u64 0]).run Tryz.prog w = .ok (.value (.tuple #[.int .u64 (s1:Nat),.int .u64 (c1:Nat)])) w:=wG z pl 0 s1 c1 (Nat.zero_le _) hs1 hc1
    have YR:∀ w,(callFunc 205 #[.int .u64 (s1:Nat),.int .u64 (bo:Nat),.int .u64 0]).run Tryz.prog w = .ok (.value (.tuple #[.int .u64 (s2:Nat),.int .u64 (c2:Nat)])) w:=wG s1 bo 0 s2 c2 (Nat.zero_le _) hs2 hc2
    obtain ⟨d1,hd1⟩:∃ d1,ph+c1=d1:=⟨_,rfl⟩
    obtain ⟨d,hd⟩:∃ d,d1+c2=d:=⟨_,rfl⟩
    rw [hd1] at TA HST Nk
    rw [hd] at HST Nk
    have f1:(ph:Int)+(c1:Int)=(d1:Int):=by rw [← hd1];rfl
    have f2:(d1:Int)+(c2:Int)=(d:Int):=by rw [← hd];rfl
    have f3:=jW TA
    have f4:=jW Nk
    have f5:=kU TA
    have f6:=kU Nk
    clear hst htk wF hzz hp Tx hpl hs1 hc1 hs2 hc2 hown hB HO hd hd1 hp1 YP Nk TA q1 q2 Wy Wz WA hy hx1 hcy hl
    go_wp2_with (fail)
    refine (hMul.out _).mono ?_
    rintro e w' ⟨rfl,rfl⟩
    clear hMul
    go_wp2
    go_roundw
    case rel=>exact ⟨i+1,_,d,by omega,by go_num,rfl,HST,hown2,hB2⟩
    case measure=>simp [intOf];omega
  · obtain rfl:i=m:=by omega
    rw [HT2.out] at HO
    have hl:=HO.out.len
    have hcz:=hown.cell (j:=off+i) (by omega)
    rw [Gy _ _ _ _ _ EH.out (by omega),HO.out.out _ (Nat.le_refl _),HT.out] at hcz
    have hf:=hown.frozen (off+i)
    have hbo:=HO.out.b1
    have htb:=HT0.out
    rw [HT.out] at htb
    by_cases hab:t<bo
    · obtain ⟨x,hx⟩:∃ x,t+18446744073709551616-bo=x:=⟨_,rfl⟩
      have hxb:x<18446744073709551616:=by omega
      obtain ⟨r1,r2⟩:=OO i (aU vs*q) s s' bo t x HO.out HT.out (by unfold BB;omega) hab
      have r5:=YN i (aU vs*q) s s' bo t HO.out HT.out hab
      have hq0:1≤q:=by
       rcases Nat.eq_zero_or_pos q with h | h
       · rw [h,Nat.mul_zero] at r5;omega
       · exact h
      obtain ⟨qq,hqq⟩:∃ qq,q-1=qq:=⟨_,rfl⟩
      have hqe:q=qq+1:=by omega
      have LM:qq<18446744073709551616:=by omega
      have YS:Hid (∀ s2 c,JA (i+1) 0 (aU (s'.set i x)+aU vs) i s2 c→lb s2 i+c=BB∧qq*aU vs+aU (s2.set i 0)=aU s∧aU (s2.set i 0)<aU vs):=fun s2 c h=>by
       rw [hqe] at r1 r5
       obtain ⟨a,b⟩:=OP i (aU vs*(qq+1)) (aU vs) qq (aU s) (aU (s'.set i x)) s2 c r1 (by rw [Nat.mul_add,Nat.mul_one,Nat.mul_comm qq]) (by have:=HQ2.out;rw [hqe,Nat.add_mul,Nat.one_mul] at this;omega) h
       exact ⟨a,Tz (aU vs) qq (aU s) _ b r5⟩
      have hown2:=hown.nO (off+i) x
      rw [AL _ _ _ _ _ _ EH.out (by omega)] at hown2
      have hB2:=hB.setCell (off+i) (.int .u64 (x:Nat))
      have HA0:Hid (JA (i+1) 0 (aU (s'.set i x)+aU (vs.take 0)) 0 (s'.set i x) 0):=⟨by rw [List.length_set];exact hl,r2,Nat.zero_le _,by simp [aU]⟩
      have f1:((t:Int)-(bo:Int))%18446744073709551616=(x:Int):=by omega
      have f2:IntKind.u64.wrap ((t:Int)-(bo:Int))=(x:Int):=by rw [IntKind.wrap_u64];exact f1
      have f3:=jW hxb
      have g1:(q:Int)-1=(qq:Int):=by omega
      have g2:=jW LM
      have g3:=kU LM
      clear r1 r2 r5 hq0 hqe hown hB HO hl hbo htb hx hxb HD0
      go_wp2
      generalize hWW:wr.setCell ⟨g,off+i,none⟩ (.int .u64 (x:Nat))=w2 at *
      clear hWW
      go_loopw [84,16] (fun t7 s7 wx=>∃ (j:Nat) (s2:List Nat) (cy:Nat),j≤i∧t7 = .int .i64 (j:Nat)∧s7 = .int .u64 (cy:Nat)∧Hid (JA (i+1) 0 (aU (s'.set i x)+aU (vs.take j)) j s2 cy)∧Ow wx base (.slice (some ⟨g,0,none⟩) N c) (Sg pre s2 post)∧But g w wx) (fun t7 _ _=>i-(intOf t7).toNat)
      case atStart=>exact ⟨0,_,0,Nat.zero_le _,rfl,rfl,HA0,hown2,hB2⟩
      case round =>
       clear hown2 hB2 HA0
       obtain ⟨j,s2,cy,hj,rfl,rfl,HO,hown,hB⟩:=hrel
       have hl:=HO.out.len
       have hcy:=HO.out.zT
       by_cases hlt:j<i
       · have hc0:=(hB.cell (p:=av.add j) (by rw [aF];exact hbv) (by rw [aF];exact hgv)).trans (xW j hlt)
         have hy:=YO.out j
         have htk:=SQ.out j hlt
         have hcz:=hown.cell (j:=off+j) (by omega)
         rw [Gy _ _ _ _ _ EH.out (by omega)] at hcz
         have hf:=hown.frozen (off+j)
         have hx1:lb s2 j<18446744073709551616:=dh (by decide) HO.out.lt _
         obtain ⟨y,yZ⟩:∃ y,lb vs j=y:=⟨_,rfl⟩
         rw [yZ] at hc0 hy htk
         obtain ⟨z,hzz⟩:∃ z,lb s2 j=z:=⟨_,rfl⟩
         obtain ⟨s3,hs3⟩:∃ s3,(z+y+cy)%18446744073709551616=s3:=⟨_,rfl⟩
         obtain ⟨d,hd⟩:∃ d,(z+y+cy)/18446744073709551616=d:=⟨_,rfl⟩
         have hst:=HO.out.step (by omega) y s3 d hy (by rw [Nat.zero_add,hzz];exact hs3) (by rw [Nat.zero_add,hzz];exact hd)
         rw [Nat.zero_add,Nat.add_assoc,← htk] at hst
         have HST:=Lib.hid hst
         rw [hzz] at hcz hx1
         have hown2:=hown.nO (off+j) s3
         rw [AL _ _ _ _ _ _ EH.out (by omega)] at hown2
         have hB2:=hB.setCell (off+j) (.int .u64 (s3:Nat))
         have hadd:=rM z y cy s3 d hcy hs3 hd
         clear hst htk yZ hs3 hd hzz hown hB HO hy hx1 hcy hl
         go_wp2
         go_roundw
         case rel=>exact ⟨j+1,_,d,by omega,by go_num,rfl,HST,hown2,hB2⟩
         case measure=>simp [intOf];omega
       · obtain rfl:j=i:=by omega
         rw [HT2.out] at HO
         obtain ⟨a1,a2,a3⟩:=YS.out s2 cy HO.out
         have hcz:=hown.cell (j:=off+j) (by omega)
         rw [Gy _ _ _ _ _ EH.out (by omega)] at hcz
         have hf:=hown.frozen (off+j)
         obtain ⟨z,hzz⟩:∃ z,lb s2 j=z:=⟨_,rfl⟩
         rw [hzz] at hcz a1
         have f1:((z:Int)+(cy:Int))%18446744073709551616=0:=by unfold BB at a1;omega
         have f2:IntKind.u64.wrap ((z:Int)+(cy:Int))=0:=by rw [IntKind.wrap_u64];exact f1
         have hown2:=hown.nO (off+j) 0
         rw [AL _ _ _ _ _ _ EH.out (by omega)] at hown2
         have hB2:=hB.setCell (off+j) (.int .u64 (0:Nat))
         have SN:Hid (∃ q' s3,Ending.returned (.int .u64 (qq:Nat)) = .returned (.int .u64 (q':Nat))∧q'<18446744073709551616∧s3.length=j+1∧(∀ x∈s3,x<18446744073709551616)∧q'*aU vs+aU s3=aU s∧aU s3<aU vs ∧
          Ow (wr.setCell ⟨g,off+j,none⟩ (.int .u64 0)) base (.slice (some ⟨g,0,none⟩) N c) (Sg pre s3 post)):=⟨qq,_,rfl,LM,by rw [List.length_set];exact hl,dY HO.out.lt (by decide),a2,a3,hown2⟩
         have hE:Hid (But g w (wr.setCell ⟨g,off+j,none⟩ (.int .u64 0))):=hB2
         clear a1 a2 a3 hown2 hown hB hB2 HO hl hcy hzz hq LM YS
         go_wp2
         go_ret
         exact ⟨SN.out,hE.out⟩
    · obtain ⟨x,hx⟩:∃ x,t-bo=x:=⟨_,rfl⟩
      have hxb:x<18446744073709551616:=by omega
      obtain ⟨r1,r2⟩:=Ws i (aU vs*q) s s' bo t x HO.out HT.out (by omega)
      obtain ⟨r3,r4⟩:=Ty (aU vs) q (aU s) _ r1 HQ1.out
      have hown2:=hown.nO (off+i) x
      rw [AL _ _ _ _ _ _ EH.out (by omega)] at hown2
      have hB2:=hB.setCell (off+i) (.int .u64 (x:Nat))
      have f1:(t:Int)-(bo:Int)=(x:Int):=by omega
      have f2:=jW hxb
      have f3:=kU hxb
      have SN:Hid (∃ q' s2,Ending.returned (.int .u64 (q:Nat)) = .returned (.int .u64 (q':Nat))∧q'<18446744073709551616∧s2.length=i+1∧(∀ x∈s2,x<18446744073709551616)∧q'*aU vs+aU s2=aU s∧aU s2<aU vs ∧
       Ow (wr.setCell ⟨g,off+i,none⟩ (.int .u64 (x:Nat))) base (.slice (some ⟨g,0,none⟩) N c) (Sg pre s2 post)):=⟨q,_,rfl,hq,by rw [List.length_set];exact hl,r2,r3,r4,hown2⟩
      have hE:Hid (But g w (wr.setCell ⟨g,off+i,none⟩ (.int .u64 (x:Nat)))):=hB2
      clear r1 r2 r3 r4 hown2 hown hB hB2 HO hl hbo htb hx hxb hq
      go_wp2
      go_ret
      exact ⟨SN.out,hE.out⟩
end Go.Proofs.YtdpmbgomcjnohaaGreatDoor
