/- Base. -/
import Derived.Test.YtgcieamfidoaoaaGreatDoorGan
set_option linter.all false
set_option maxHeartbeats 8000000
namespace Go.Proofs.YtgcieamfidoaoaaGreatDoor
open Go.Proofs.Tryz
open Go.RowKit
theorem abS {x y:Nat} (hx:x<18446744073709551616) (hy:y<18446744073709551616):x*y≤340282366920938463426481119284349108225:=by
 calc x*y≤18446744073709551615*18446744073709551615:=Nat.mul_le_mul (by omega) (by omega)
  _=_:=by decide
theorem XN (t z cr hi lo s1 c1 s2 c2:Nat) (ht:t≤340282366920938463426481119284349108225) (hz:z<18446744073709551616) (hc:cr<18446744073709551616) (h1:t/18446744073709551616=hi) (h2:t%18446744073709551616=lo) (h3:(lo+z)%18446744073709551616=s1) (h4:(lo+z)/18446744073709551616=c1) (h5:(s1+cr)%18446744073709551616=s2) (h6:(s1+cr)/18446744073709551616=c2):z+t+cr=s2+BB*(hi+c1+c2)∧hi+c1+c2<18446744073709551616∧c1≤1∧c2≤1∧s1<18446744073709551616∧s2<18446744073709551616∧lo<18446744073709551616:=by unfold BB;omega
structure RwI (o0:List Nat) (n off:Nat) (A:Nat) (i:Nat) (o:List Nat) (cy:Nat):Prop where
 len:o.length=n
 lt:∀ x∈o,x<18446744073709551616
 Ec:cy<18446744073709551616
 val:bI o+BB^(off+i)*cy=A
 out:∀ m,off+i≤m→lb o m=lb o0 m
theorem RwI.step {o0:List Nat} {n off A i:Nat} {o:List Nat} {cy:Nat} (h:RwI o0 n off A i o cy) (hi:off+i<n) (t s d:Nat) (hs:lb o (off+i)+t+cy=s+BB*d) (hsb:s<18446744073709551616) (hd:d<18446744073709551616):RwI o0 n off (A+BB^(off+i)*t) (i+1) (o.set (off+i) s) d:=by
 refine ⟨by simp [h.len],ko h.lt hsb,hd,?_,fun m hm=>?_⟩
 · rw [← Nat.add_assoc,Nat.pow_succ];exact Jo _ _ _ _ _ _ _ _ _ (qA o (off+i) s (by rw [h.len];exact hi)) h.val hs
 · rw [fH _ (by omega)];exact h.out m (by omega)
set_option maxRecDepth 100000 in
theorem Tt (w:World) (g base n c off zc:Nat) (o gm:List Nat) (va:Value) (yv:Nat) (hyv:yv<18446744073709551616) (hown:Ow w base (.slice (some ⟨g,0,none⟩) n c) o) (ho:∀ x∈o,x<18446744073709551616) (na:Nat) (hna:gm.length=na) (hz:off+na+1≤n) (hzc:na+1≤zc) (hn:n≤1000000) (ha:V g w va gm) (h0:lb o (off+na)=0) :Calls prog 169 #[.slice (some ⟨g,off,none⟩) (na+1:Nat) zc,va,.int .u64 (yv:Nat)] w fun e w'=>e = .returned (.tuple #[])∧(∃ o',Ow w' base (.slice (some ⟨g,0,none⟩) n c) o'∧bI o'=bI o+BB^off*(bI gm*yv)∧(∀ x∈o',x<18446744073709551616)∧∀ m,off+na<m→lb o' m=lb o m)∧But g w w':=by
 have hlim:=ha.lim;obtain ⟨A,ca,rfl,⟨hca,hma⟩,hx,hr⟩:=id ha;have hcap:=hown.caps;have hgb:=hown.block.2;have HN:=Lib.hid hna;have H0:=Lib.hid h0;have HS:Hid (RwI o n off (bI o+BB^off*(bI (gm.take 0)*yv)) 0 o 0):=⟨hcap.1.symm,ho,by decide,by simp [bI],fun m _=>rfl⟩;have Ya:=Lib.hid (fun k=>iZ gm k);have HT2:Hid (gm.take na=gm):=by rw [Hid,← hna];exact List.take_length
 rw [hna] at hca hma hr ⊢;have hB0:=But.refl g w;have aom:((na+1:Nat):Int)=(na:Int)+1:=by omega
 clear ha hna hcap ho h0;go_enter func169,ntmps169;go_wp2;go_loopw [20,6] (fun t s wr=>∃ (i:Nat) (o':List Nat) (cy:Nat),i≤na∧t = .int .i64 (i:Nat)∧s = .int .u64 (cy:Nat)∧Hid (RwI o n off (bI o+BB^off*(bI (gm.take i)*yv)) i o' cy)∧Ow wr base (.slice (some ⟨g,0,none⟩) n c) o'∧But g w wr) (fun t _ _=>na-(intOf t).toNat);case atStart=>exact ⟨0,o,0,Nat.zero_le _,rfl,rfl,HS,hown,hB0⟩
 case round =>
  clear HS hown hB0;obtain ⟨i,o',cy,hi,rfl,rfl,HO,hown,hB⟩:=hrel;by_cases hlt:i<na
  · obtain ⟨ad,rfl,hb,hne,hcell⟩:=hr (by omega);have hc0:=(hB.cell (p:=ad.add i) (by rw [aW];exact hb) (by rw [aW];exact hne)).trans (hcell i hlt);have hy:lb gm i<18446744073709551616:=gD (by decide) hx i;have htk:=Ya.out i (by rw [HN.out];exact hlt);have hcz:=hown.cell (j:=off+i) (by omega);have hf:=hown.frozen (off+i);have hx1:lb o' (off+i)<18446744073709551616:=gD (by decide) HO.out.lt _;have hcy:=HO.out.Ec;obtain ⟨x,zU⟩:∃ x,lb gm i=x:=⟨_,rfl⟩;rw [zU] at hc0 hy htk;obtain ⟨z,hzz⟩:∃ z,lb o' (off+i)=z:=⟨_,rfl⟩;rw [hzz] at hcz hx1;obtain ⟨t,ht⟩:∃ t,x*yv=t:=⟨_,rfl⟩;have ht1:t≤340282366920938463426481119284349108225:=(by rw [← ht];exact abS hy hyv);obtain ⟨XO,hhi⟩:∃ XO,t/18446744073709551616=XO:=⟨_,rfl⟩;obtain ⟨lo,hlo⟩:∃ lo,t%18446744073709551616=lo:=⟨_,rfl⟩;obtain ⟨s1,hs1⟩:∃ s1,(lo+z)%18446744073709551616=s1:=⟨_,rfl⟩;obtain ⟨c1,hc1⟩:∃ c1,(lo+z)/18446744073709551616=c1:=⟨_,rfl⟩;obtain ⟨s2,hs2⟩:∃ s2,(s1+cy)%18446744073709551616=s2:=⟨_,rfl⟩;obtain ⟨c2,hc2⟩:∃ c2,(s1+cy)/18446744073709551616=c2:=⟨_,rfl⟩;obtain ⟨hm,hd1,hk1,hk2,hb1,hb2,hlo1⟩:=XN t z cy XO lo s1 c1 s2 c2 ht1 hx1 hcy hhi hlo hs1 hc1 hs2 hc2;have hst:=HO.out.step (by omega) t s2 (XO+c1+c2) (by rw [hzz];exact hm) hb2 hd1;rw [Nat.add_assoc (bI o),Nat.pow_add,Nat.mul_assoc,← Nat.mul_add,← ht,← Nat.mul_assoc,← Nat.add_mul,← htk] at hst;have HST:=Lib.hid hst;have hown2:=hown.qU (off+i) s2;have hB2:=hB.setCell (off+i) (.int .u64 (s2:Nat));have hMul:Hid (∀ W,Calls prog 191 #[.int .u64 (x:Nat),.int .u64 (yv:Nat)] W fun e w'=>e = .returned (.tuple #[.int .u64 (XO:Nat),.int .u64 (lo:Nat)])∧w'=W):=(by intro W;have:=wz x yv hy hyv W;rw [ht,hhi,hlo] at this;exact this);have aea:∀ w,(callFunc 172 #[.int .u64 (lo:Nat),.int .u64 (z:Nat),.int .u64 0]).run prog w = .ok (.value (.tuple #[.int .u64 (s1:Nat),.int .u64 (c1:Nat)])) w:=wB lo z 0 s1 c1 (Nat.zero_le _) hs1 hc1;have aeb:∀ w,(callFunc 172 #[.int .u64 (s1:Nat),.int .u64 (cy:Nat),.int .u64 0]).run prog w = .ok (.value (.tuple #[.int .u64 (s2:Nat),.int .u64 (c2:Nat)])) w:=wB s1 cy 0 s2 c2 (Nat.zero_le _) hs2 hc2;have hw1:IntKind.u64.wrap ((XO:Int)+(c1:Int))=(XO:Int)+(c1:Int):=(by rw [IntKind.wrap_u64];omega);have hw2:IntKind.u64.wrap ((XO:Int)+(c1:Int)+(c2:Int))=(XO:Int)+(c1:Int)+(c2:Int):=(by rw [IntKind.wrap_u64];omega);obtain ⟨d,hd⟩:∃ d,XO+c1+c2=d:=⟨_,rfl⟩;have hdi:(XO:Int)+(c1:Int)+(c2:Int)=(d:Int):=(by omega);rw [hd] at HST hd1;clear hst htk zU hzz ht hhi hlo hs1 hc1 hs2 hc2 hm hown hB HO hd ht1;go_wp2_with (fail);refine (hMul.out _).mono ?_;rintro e w' ⟨rfl,rfl⟩;clear hMul;go_wp2;go_roundw;case rel=>exact ⟨i+1,_,d,by omega,by go_num,rfl,HST,hown2,hB2⟩
    case measure=>simp [intOf];omega
  · obtain rfl:i=na:=(by omega);rw [HT2.out] at HO;have hcz:=hown.cell (j:=off+i) (by omega);have hf:=hown.frozen (off+i);have hown2:=hown.qU (off+i) cy;have hB2:=hB.setCell (off+i) (.int .u64 (cy:Nat));have hl0:lb o' (off+i)=0:=(by rw [HO.out.out _ (Nat.le_refl _)];exact H0.out);have hws:=qA o' (off+i) cy (by rw [HO.out.len];omega);rw [hl0,Nat.mul_zero,Nat.add_zero,HO.out.val] at hws;have Ao:(Value.int .u64 (lb o' (off+i):Nat)) = .int .u64 0:=(by rw [hl0];rfl);rw [Ao] at hcz
    have HF:Hid (∃ o2,Ow (wr.setCell ⟨g,off+i,none⟩ (.int .u64 (cy:Nat))) base (.slice (some ⟨g,0,none⟩) n c) o2∧bI o2=bI o+BB^off*(bI gm*yv)∧(∀ x∈o2,x<18446744073709551616)∧∀ m,off+i<m→lb o2 m=lb o m) :=
     ⟨_,hown2,hws,ko HO.out.lt HO.out.Ec,fun m hm=>by rw [fH _ (by omega)];exact HO.out.out m (by omega)⟩
    have hii:(i:Int)<((i+1:Nat):Int):=(by omega);have hii2:(i:Int)<(i:Int)+1:=(by omega);clear hl0 hws Ao hown hown2 HO hB hr;go_wp2;go_end0;exact ⟨rfl,HF.out,hB2⟩
structure RsI (gm bs:List Nat) (n:Nat) (i:Nat) (o:List Nat):Prop where
 len:o.length=n
 lt:∀ x∈o,x<18446744073709551616
 val:bI o=bI gm*bI (bs.take i)
 out:∀ m,i+gm.length≤m→lb o m=0
def Prod (w w':World) (x:Ending) (na nb:Nat) (gm bs:List Nat):Prop :=
 ∃ g c o,x = .returned (.slice (some ⟨g,0,none⟩) (na+nb) c)∧Ow w' w.heap.size (.slice (some ⟨g,0,none⟩) (na+nb) c) o∧bI o=bI gm*bI bs∧∀ x∈o,x<18446744073709551616
set_option maxRecDepth 100000 in
theorem F6 (w:World) (q1 q2:Nat) (va vb:Value) (gm bs:List Nat) (ha:V q1 w va gm) (hb:V q2 w vb bs) (na nb:Nat) (hna:gm.length=na) (hnb:bs.length=nb) (hm:na+nb≤100000) :Calls prog 152 #[va,vb] w fun e w'=>Prod w w' e na nb gm bs∧Ext w w':=by
 have hxb:=hb.lim;obtain ⟨A,ca,rfl,hca⟩:=ha.shape;obtain ⟨A2,cb,rfl,⟨hcb,hmb⟩,hx2,hr⟩:=id hb;have HNA:=Lib.hid hna;have HNB:=Lib.hid hnb;rw [hna] at ha hca ⊢;rw [hnb] at hb hcb hr hmb ⊢;obtain ⟨i0,hi,hz0,hz1,hz2⟩:=info_parts wC;obtain ⟨n,hn⟩:∃ n,na+nb=n:=⟨_,rfl⟩;have hni:(na:Int)+(nb:Int)=(n:Int):=by omega
 obtain ⟨B,hB⟩:∃ B,w.heap.size=B:=⟨_,rfl⟩;have Hu:=Lib.hid hB;have Ya:=Lib.hid (fun k=>iZ bs k);have HT2:Hid (bs.take nb=bs):=by rw [Hid,← hnb];exact List.take_length
 unfold Prod;rw [hB,hn];clear hna hnb;go_enter func152,ntmps152;go_wp2_with (at_make;refine wpList_make_full _ rfl _ _ 145 rfl w.heap.size 111 i0 (.int .u64 0) 1 underlying145 hi hz0 hz1 _ _ _ _ n rfl rfl (by omega) (by omega) (by rw [hz2];omega) (by unfold maxLen;omega) (Nat.le_refl _) ?_;intro w1 hown hgrow);have ho0:=Ow.zeros hown;have hE0:Ext w w1:=(Ext.refl w).grown hgrow (Nat.le_refl _) (fun _ h=>by cases h);rw [hB] at ho0;have ha1:=(ha.new (g:=B) (by omega)).below hE0;have hne:∀ ad,A2=some ad→0<nb→ad.block≠B:=fun ad e h0=>by obtain ⟨ahc,e',hb',_⟩:=hr h0;rw [e'] at e;injection e with e;subst e;omega
 clear hown hgrow hi hz0 hz1 hz2 i0 ha hb;go_wp2;go_loopw [16] (fun t wr=>∃ (i:Nat) (o:List Nat),i≤nb∧t = .int .i64 (i:Nat)∧Hid (RsI gm bs n i o)∧Ow wr B (.slice (some ⟨B,0,none⟩) n n) o∧Ext w wr∧V B wr (.slice A na ca) gm) (fun t _=>nb-(intOf t).toNat);case atStart=>exact ⟨0,_,Nat.zero_le _,rfl,⟨by simp,fun x hx=>by simp at hx;omega,by simp [mZ,bI],fun m _=>jL _ _⟩,ho0,hE0,ha1⟩
 case round =>
  clear ho0 hE0 ha1;obtain ⟨i,o,hib,rfl,HO,hown,hE,hav⟩:=hrel;by_cases hlt:i<nb
  · obtain ⟨ad,rfl,hbk,hnq,hcell⟩:=hr (by omega);have hc0:=(hE.cell (p:=ad.add i) (by rw [aW];exact hbk)).trans (hcell i hlt);have hy:lb bs i<18446744073709551616:=gD (by decide) hx2 i;have htk:=Ya.out i (by rw [HNB.out];exact hlt);obtain ⟨y,Db⟩:∃ y,lb bs i=y:=⟨_,rfl⟩;rw [Db] at hc0 hy htk;have agM:=Lib.hid (Tt wr B B n n i (n-i) o gm _ y hy hown HO.out.lt na HNA.out (by omega) (by omega) (by omega) hav (HO.out.out _ (by rw [HNA.out];exact Nat.le_refl _)));have hi1:(i:Int)+(na:Int)+1≤(n:Int):=(by omega);have hi2:(i:Int)≤(i:Int)+(na:Int)+1:=(by omega);have hi3:i≤n:=(by omega);have hi4:i+na+1-i=na+1:=(by omega);have hi5:((i:Int)+(na:Int)+1).toNat=i+na+1:=(by omega);clear Db;go_wp2_with (fail);refine agM.out.mono ?_;rintro e w' ⟨rfl,⟨o2,hown2,hv2,hl2,hout2⟩,hB2⟩;have hE2:=hE.but hB2 (by omega);have ajz:=hav.but hB2
    have HST:Hid (RsI gm bs n (i+1) o2):=by
     refine ⟨hown2.caps.1.symm,hl2,?_,fun m hm=>?_⟩
     · rw [htk,Nat.mul_add,← HO.out.val,hv2,Nat.mul_left_comm]
     · rw [HNA.out] at hm;rw [hout2 m (by omega)];exact HO.out.out m (by rw [HNA.out];omega)
    clear agM hv2 hl2 hout2 hB2 hown HO hE hav htk;go_wp2;go_roundw;case rel=>exact ⟨i+1,_,by omega,by go_num,HST,hown2,hE2,ajz⟩
    case measure=>simp [intOf];omega
  · obtain rfl:i=nb:=by omega
    have HF:Hid (∃ g c o,Ending.returned (.slice (some ⟨B,0,none⟩) n n) = .returned (.slice (some ⟨g,0,none⟩) n c)∧Ow wr B (.slice (some ⟨g,0,none⟩) n c) o∧bI o=bI gm*bI bs∧∀ x∈o,x<18446744073709551616) :=
     ⟨B,n,o,rfl,hown,by rw [HO.out.val,HT2.out],HO.out.lt⟩
    clear hown HO hav;go_wp2;go_ret;exact ⟨HF.out,hE⟩
abbrev Wh:Value:=.agg #[.int .i64 40,.func (.func 170) #[] #[],.func (.func 152) #[] #[]]
def BX (N:Nat):Prop:=∀ (w:World) (q1 q2:Nat) (va vb:Value) (gm bs:List Nat) (na nb:Nat),V q1 w va gm→V q2 w vb bs→gm.length=na→bs.length=nb→na+nb<N →
 Calls prog 156 #[Wh,va,vb] w fun e w'=>Prod w w' e na nb gm bs∧Ext w w'
theorem Prod.open {w w':World} {e:Ending} {na nb:Nat} {gm bs:List Nat} (h:Prod w w' e na nb gm bs) (n:Nat) (hn:na+nb=n) :∃ g c o,e = .returned (.slice (some ⟨g,0,none⟩) n c)∧Ow w' w.heap.size (.slice (some ⟨g,0,none⟩) n c) o∧bI o=bI gm*bI bs∧(∀ x∈o,x<18446744073709551616)∧o.length=n:=by obtain ⟨g,c,o,he,ho,hv,hl⟩:=h;subst hn;exact ⟨g,c,o,he,ho,hv,hl,ho.caps.1.symm⟩
theorem NV.done {n off A zl:Nat} {o:List Nat} {cy:Nat} (h:NV n off A zl o cy) (hn:off+zl=n) (hA:A<BB^n):bI o=A:=by
 have hv:=h.val;rcases Nat.eq_zero_or_pos cy with h0 | h0
 · grind
 · have h1:cy=1:=(by have:=h.Ec;omega);grind
theorem Vl.done {n off A T zl:Nat} {o:List Nat} {cy:Nat} (h:Vl n off A T zl o cy) (hn:off+zl=n) (hT:T≤A):bI o=A-T:=by
 have hv:=h.val;have hlt:=yY o h.lt;rw [h.len] at hlt;rcases Nat.eq_zero_or_pos cy with h0 | h0
 · grind
 · have h1:cy=1:=(by have:=h.Ec;omega);grind
theorem Prod.turn {w w':World} {e:Ending} {na nb nx ny:Nat} {gm bs xs ys:List Nat} (h:Prod w w' e nx ny xs ys) (hn:nx+ny=na+nb) (hv:bI xs*bI ys=bI gm*bI bs):Prod w w' e na nb gm bs:=by obtain ⟨g,c,o,he,ho,hv',hl⟩:=h;rw [hn] at he ho;exact ⟨g,c,o,he,ho,by rw [hv',hv],hl⟩
theorem Prod.base {w0 w w':World} {e:Ending} {na nb:Nat} {gm bs:List Nat} (h:Prod w w' e na nb gm bs) (hB:Ext w0 w):Prod w0 w' e na nb gm bs:=by obtain ⟨g,c,o,he,ho,hv',hl⟩:=h;exact ⟨g,c,o,he,ho.qM hB.size,hv',hl⟩
def LB:Nat:=4294967296
theorem wN (o:List Nat) (j x:Nat) (h:j<o.length):val (o.set j x)+LB^j*lb o j=val o+LB^j*x:=by rw [Nat.mul_comm (LB^j),Nat.mul_comm (LB^j)];exact uO o j x h
theorem jg (xs:List Nat) (i:Nat) (h:i<xs.length):val (xs.take (i+1))=val (xs.take i)+LB^i*lb xs i:=by rw [Nat.mul_comm];exact mD xs i h
theorem Tu (P S S' x y c d A v:Nat) (hset:S'+P*x=S+P*v) (hinv:S+P*c=A) (hd:x+y+c=v+LB*d):S'+P*LB*d=A+P*y:=by
 have h1:P*(x+y+c)=P*(v+LB*d):=by rw [hd]
 rw [Nat.mul_add,Nat.mul_add,Nat.mul_add,← Nat.mul_assoc] at h1;omega
structure U4 (o0:List Nat) (n off:Nat) (A:Nat) (i:Nat) (o:List Nat) (cy:Nat):Prop where
 len:o.length=n
 lt:∀ x∈o,x<4294967296
 Ec:cy<4294967296
 val:val o+LB^(off+i)*cy=A
 out:∀ m,off+i≤m→lb o m=lb o0 m
theorem U4.step {o0:List Nat} {n off A i:Nat} {o:List Nat} {cy:Nat} (h:U4 o0 n off A i o cy) (hi:off+i<n) (t s d:Nat) (hs:lb o (off+i)+t+cy=s+LB*d) (hsb:s<4294967296) (hd:d<4294967296):U4 o0 n off (A+LB^(off+i)*t) (i+1) (o.set (off+i) s) d:=by
 refine ⟨by simp [h.len],ko h.lt hsb,hd,?_,fun m hm=>?_⟩
 · rw [← Nat.add_assoc,Nat.pow_succ];exact Tu _ _ _ _ _ _ _ _ _ (wN o (off+i) s (by rw [h.len];exact hi)) h.val hs
 · rw [fH _ (by omega)];exact h.out m (by omega)
structure TH (gm bs:List Nat) (n:Nat) (i:Nat) (o:List Nat):Prop where
 len:o.length=n
 lt:∀ x∈o,x<4294967296
 val:val o=val gm*val (bs.take i)
 out:∀ m,i+gm.length≤m→lb o m=0
theorem yj (t z cr s d u:Nat) (ht:t≤18446744065119617025) (hz:z<4294967296) (hc:cr<4294967296) (hu:cr+(t+z)=u) (hs:u%4294967296=s) (hd:u/4294967296=d) :z+t+cr=s+LB*d∧s<4294967296∧d<4294967296∧u<18446744073709551616∧t+z<18446744073709551616:=by unfold LB;refine ⟨by omega,by omega,by omega,by omega,by omega⟩
set_option maxRecDepth 100000 in
theorem DR (b:Bool) (w:World) (vx vy:Value) (xs ys:List Nat) (nx ny:Nat) (hx:U w vx xs) (hy:U w vy ys) (hnx:xs.length=nx) (hny:ys.length=ny) (hle:ny≤nx) (hb:b=true→ny<nx) (h12:ny<12) (hn:nx≤1000) :Calls prog 133 #[(if b then vy else vx),(if b then vx else vy)] w fun e w'=>(∃ u,e = .returned u∧Un w' u (val xs*val ys))∧Ext w w':=by
 obtain ⟨A,ca,rfl,⟨hca,hma⟩,hxl,UZ⟩:=id hx;obtain ⟨A2,cb,rfl,⟨hcb,hmb⟩,hyl,U0⟩:=id hy;have HL:Hid (xs.length=nx∧ys.length=ny):=⟨hnx,hny⟩;have HTX:=Lib.hid (fun k=>jg xs k);have HTY:=Lib.hid (fun k=>jg ys k);have HT2:Hid (xs.take nx=xs∧ys.take ny=ys):=⟨by rw [← hnx];exact List.take_length,by rw [← hny];exact List.take_length⟩;rw [hnx] at hca hma UZ ⊢;rw [hny] at hcb hmb U0 ⊢;obtain ⟨n,hnn⟩:∃ n,nx+ny=n:=⟨_,rfl⟩;have hni:(nx:Int)+(ny:Int)=(n:Int):=by omega
 have hm1:(if (ny:Int)<(nx:Int) then (ny:Int) else (nx:Int))=(ny:Int):=by split<;>omega
 have hm2:(if (nx:Int)<(ny:Int) then (nx:Int) else (ny:Int))=(ny:Int):=by split<;>omega
 have hm3:(if ny<nx then (ny:Int) else (nx:Int))=(ny:Int):=by split<;>omega
 have hm4:(if nx<ny then (nx:Int) else (ny:Int))=(ny:Int):=by split<;>omega
 have agN:decide ((12:Int)≤(ny:Int))=false:=by rw [decide_eq_false_iff_not];omega
 obtain ⟨i0,hi,hz0,hz1,hz2⟩:=info_parts sS;obtain ⟨B,hB⟩:∃ B,w.heap.size=B:=⟨_,rfl⟩;have Hu:=Lib.hid hB;have hlt:b=true→ny<nx:=hb;clear hx hy hnx hny hb;cases b
 case' false =>
  show Calls prog 133 #[.slice A nx ca,.slice A2 ny cb] w _;have hd:decide ((nx:Int)<(ny:Int))=false:=by rw [decide_eq_false_iff_not];omega
  go_enter func133,ntmps133;go_upto_region 5 with (fail)
 case' true =>
  show Calls prog 133 #[.slice A2 ny cb,.slice A nx ca] w _;have hlt':=hlt rfl;have hd:decide ((ny:Int)<(nx:Int))=true:=by rw [decide_eq_true_iff];omega
  go_enter func133,ntmps133;go_upto_region 5 with (fail)
 all_goals
  clear hd hm1 hm2 hm3 hm4 agN hlt;go_wp2_with (at_make;refine wpList_make_full _ rfl _ _ 24 rfl w.heap.size 57 i0 (.int .u32 0) 1 underlying24 hi hz0 hz1 _ _ _ _ n rfl rfl (by omega) (by omega) (by rw [hz2];omega) (by unfold maxLen;omega) (Nat.le_refl _) ?_;intro w1 hown hgrow);have ho0:Own w1 w.heap.size (.slice (some ⟨w.heap.size,0,none⟩) n n) (List.replicate n 0):=by have:=Own.zeros hown;rwa [List.length_replicate] at this
  have hE0:Ext w w1:=(Ext.refl w).grown hgrow (Nat.le_refl _) (fun _ h=>by cases h);rw [hB] at ho0;clear hown hgrow hi hz0 hz1 hz2 i0;have hS0:Hid (TH xs ys n 0 (List.replicate n 0)):=⟨by simp,fun x hx=>by simp at hx;omega,by simp [gF,val],fun m _=>jL _ _⟩;go_wp2;go_loopw [39] (fun t wr=>∃ (i:Nat) (o:List Nat),i≤ny∧t = .int .i64 (i:Nat)∧Hid (TH xs ys n i o)∧Own wr B (.slice (some ⟨B,0,none⟩) n n) o∧Ext w wr) (fun t _=>ny-(intOf t).toNat);case atStart=>exact ⟨0,_,Nat.zero_le _,rfl,hS0,ho0,hE0⟩
  case round =>
   clear hS0 ho0 hE0;obtain ⟨i,o,hib,rfl,HO,hown,hE⟩:=hrel;by_cases hlt:i<ny
   · obtain ⟨LW,rfl,hb2,hcell2⟩:=U0 (by omega);obtain ⟨ad,rfl,hb1,hcell1⟩:=UZ (by omega);have hc0:=(hE.cell (p:=LW.add i) (by rw [aW];exact hb2)).trans (hcell2 i hlt);have hyb:=fD hyl i;have hty:=HTY.out i (by rw [HL.out.2];exact hlt);obtain ⟨y,Db⟩:∃ y,lb ys i=y:=⟨_,rfl⟩;rw [Db] at hc0 hyb hty;have g1:i<n:=(by omega);have g2:(i:Int)<(n:Int):=(by omega);have g3:(i:Int)≤(i:Int)+(nx:Int):=(by omega);have g4:(i:Int)+(nx:Int)≤(n:Int):=(by omega);have g5:(0:Int)≤(i:Int):=(by omega);have g6:((i:Int)+(nx:Int)).toNat=i+nx:=(by omega);have g7:i+nx-i=nx:=(by omega);have g8:¬ (n=i):=(by omega);have g9:IntKind.i64.wrap ((i:Int)+(nx:Int))=(i:Int)+(nx:Int):=IntWalk.i64_in _ (by omega);have g10:(0:Int)≤(i:Int)+(nx:Int):=(by omega);go_wp2_with (fail);go_quiet (fail);go_wp2_with (fail);have U2:Hid (U4 o n i (val o+LB^i*(val (xs.take 0)*y)) 0 o 0):=⟨HO.out.len,HO.out.lt,by decide,by simp [val],fun m _=>rfl⟩;have hEd:Ext w (wr.drewN nq):=hE.below (kI _ _);have abJ:Own (wr.drewN nq) B (.slice (some ⟨B,0,none⟩) n n) o:=hown.ext (kI _ _);have E8:Hid (val (ys.take (i+1))=val (ys.take i)+LB^i*y):=hty;have hno:Hid (lb o (i+nx)=0):=HO.out.out _ (by rw [HL.out.1];exact Nat.le_refl _);clear Db hc0 hown hE hty;go_loopw [53,8] (fun t s wx=>∃ (j:Nat) (o2:List Nat) (cy:Nat),j≤nx∧t = .int .i64 (j:Nat)∧s = .int .u64 (cy:Nat)∧Hid (U4 o n i (val o+LB^i*(val (xs.take j)*y)) j o2 cy)∧Own wx B (.slice (some ⟨B,0,none⟩) n n) o2∧Ext w wx) (fun t _ _=>nx-(intOf t).toNat);case atStart=>exact ⟨0,o,0,Nat.zero_le _,rfl,rfl,U2,abJ,hEd⟩
     case round =>
      clear U2 abJ hEd;obtain ⟨j,o2,cy,hj,rfl,rfl,HW,hown,hE⟩:=hrel;by_cases hjt:j<nx
      · have hc1:=(hE.cell (p:=ad.add j) (by rw [aW];exact hb1)).trans (hcell1 j hjt);have hxb:=fD hxl j;have htk:=HTX.out j (by rw [HL.out.1];exact hjt);have hcz:=hown.rd.2 (i+j) (by rw [HW.out.len];omega);have hf:=hown.frozen' (i+j);have hzb:=fD HW.out.lt (i+j);have hcy:=HW.out.Ec;obtain ⟨x,zU⟩:∃ x,lb xs j=x:=⟨_,rfl⟩;rw [zU] at hc1 hxb htk;obtain ⟨z,hzz⟩:∃ z,lb o2 (i+j)=z:=⟨_,rfl⟩;rw [hzz] at hcz hzb;obtain ⟨t,ht⟩:∃ t,x*y=t:=⟨_,rfl⟩;have ht1:t≤18446744065119617025:=(by rw [← ht];exact Qi hxb hyb);have hti:(x:Int)*(y:Int)=(t:Int):=(by rw [← ht,Int.natCast_mul]);obtain ⟨u,hu⟩:∃ u,cy+(t+z)=u:=⟨_,rfl⟩;obtain ⟨s,hs⟩:∃ s,u%4294967296=s:=⟨_,rfl⟩;obtain ⟨d,hd⟩:∃ d,u/4294967296=d:=⟨_,rfl⟩;obtain ⟨hm,hsb,hdb,hub,htz⟩:=yj t z cy s d u ht1 hzb hcy hu hs hd;have hst:=HW.out.step (by omega) t s d (by rw [hzz];exact hm) hsb hdb;rw [Nat.add_assoc (val o),Nat.pow_add,Nat.mul_assoc,← Nat.mul_add,← ht,← Nat.mul_assoc,← Nat.add_mul,← htk] at hst;have HST:=Lib.hid hst;have hown2:=hown.set' (i+j) s;have hE2:=hE.setCell (p:=⟨B,i+j,none⟩) (by rw [Hu.out];exact Nat.le_refl _) (.int .u32 (s:Nat));have q1:IntKind.u64.wrap (t:Int)=(t:Int):=(by rw [IntKind.wrap_u64];omega);have q2:IntKind.u64.wrap ((t:Int)+(z:Int))=(t:Int)+(z:Int):=(by rw [IntKind.wrap_u64];omega);have q3:(cy:Int)+((t:Int)+(z:Int))=(u:Int):=(by omega);have q4:IntKind.u64.wrap (u:Int)=(u:Int):=(by rw [IntKind.wrap_u64];omega);have q5:IntKind.u32.wrap (u:Int)=(s:Int):=(by rw [IntKind.wrap_u32];omega);have q6:(u:Int)%4294967296=(s:Int):=(by omega);have q7:(u:Int)/4294967296=(d:Int):=(by omega);have q8:IntKind.u64.wrap (x:Int)=(x:Int):=(by rw [IntKind.wrap_u64];omega);have q9:IntKind.u64.wrap (y:Int)=(y:Int):=(by rw [IntKind.wrap_u64];omega);have q10:IntKind.u64.wrap (z:Int)=(z:Int):=(by rw [IntKind.wrap_u64];omega);have q11:(u:Int)%18446744073709551616=(u:Int):=(by omega);have q12:(t:Int)%18446744073709551616=(t:Int):=(by omega);have q13:((t:Int)+(z:Int))%18446744073709551616=(t:Int)+(z:Int):=(by omega);have hbn:(ad.add j).block≠B:=(by rw [aW];have:=Hu.out;omega);clear hst htk zU hzz ht hu hs hd hm hown hE HW hxb hzb ht1 hcy;go_wp2;go_roundw;case rel=>exact ⟨j+1,_,d,by omega,by go_num,rfl,HST,hown2,hE2⟩
        case measure=>simp [intOf];omega
      · obtain rfl:j=nx:=(by omega);have hcz:=hown.rd.2 (i+j) (by rw [HW.out.len];omega);have hf:=hown.frozen' (i+j);have hl0:lb o2 (i+j)=0:=(by rw [HW.out.out _ (Nat.le_refl _)];exact hno.out);have hws:=wN o2 (i+j) cy (by rw [HW.out.len];omega);rw [hl0,Nat.mul_zero,Nat.add_zero,HW.out.val,HT2.out.1] at hws;have Ao:(Value.int .u32 (lb o2 (i+j):Nat)) = .int .u32 0:=(by rw [hl0];rfl);rw [Ao] at hcz;have E9:=HW.out.Ec;have q5:IntKind.u32.wrap (cy:Int)=(cy:Int):=(by rw [IntKind.wrap_u32];omega);have q6:(cy:Int)%4294967296=(cy:Int):=(by omega);have hown2:=hown.set' (i+j) cy;have hE2:=hE.setCell (p:=⟨B,i+j,none⟩) (by rw [Hu.out];exact Nat.le_refl _) (.int .u32 (cy:Nat))
        have HST:Hid (TH xs ys n (i+1) (o2.set (i+j) cy)):=by
         refine ⟨by rw [List.length_set];exact HW.out.len,ko HW.out.lt E9,?_,fun m hm=>?_⟩
         · rw [hws,E8.out,Nat.mul_add,← HO.out.val,Nat.mul_left_comm]
         · rw [HL.out.1] at hm;rw [fH _ (by omega),HW.out.out _ (by omega)];exact HO.out.out m (by rw [HL.out.1];omega)
        have g12:(i:Int)+(j:Int)<(n:Int):=(by omega);have g13:i+j<n:=(by omega);clear hl0 hws Ao hown hE HW E9 E8 hno;go_wp2;go_roundw;case rel=>exact ⟨i+1,_,by omega,by go_num,HST,hown2,hE2⟩
        case measure=>simp [intOf];omega
   · obtain rfl:i=ny:=(by omega);have hu:=hown.Ht HO.out.lt (by rw [HO.out.len];omega);have hvv:=HO.out.val;rw [HT2.out.2] at hvv;have HV:=Lib.hid hvv;clear hown HO hvv;go_wp2_with (fail);refine (BQ _ _ _ hu).mono ?_;rintro e w2 ⟨⟨u,rfl,hu2⟩,rfl⟩;rw [HV.out] at hu2;have HF:Hid (∃ u',Ending.returned u = .returned u'∧Un wr u' (val xs*val ys)):=⟨_,rfl,hu2⟩;clear hu2 hu;go_wp2;go_ret;exact ⟨HF.out,hE⟩
set_option maxRecDepth 100000 in
theorem Pn (w:World) (va vb:Value) (xs ys:List Nat) (ha:U w va xs) (hb:U w vb ys) (hla:xs.length≤1000) (hlb:ys.length≤1000) (h12:12≤min xs.length ys.length) :Calls prog 133 #[va,vb] w fun e w'=>(∃ u,e = .returned u∧Un w' u (val xs*val ys))∧Ext w w':=by
 obtain ⟨A,ca,rfl,hca⟩:=ha.shape;obtain ⟨A2,cb,rfl,hcb⟩:=hb.shape;obtain ⟨na,hna⟩:∃ na,(xs.length+1)/2=na:=⟨_,rfl⟩;obtain ⟨nb,hnb⟩:∃ nb,(ys.length+1)/2=nb:=⟨_,rfl⟩;have hHW:=Lib.hid (And.intro (qL xs) (qL ys));have hHP:=Lib.hid (And.intro (wy xs ha.lim) (wy ys hb.lim));have hHL:Hid ((kQ xs).length=na∧(kQ ys).length=nb):=⟨by rw [ni,hna],by rw [ni,hnb]⟩;have hPa:=Lib.hid (fun W h=>vw W (.slice A xs.length ca) xs h (by omega) na hna);have hPb:=Lib.hid (fun W h=>vw W (.slice A2 ys.length cb) ys h (by omega) nb hnb);have aij:na≤501:=by omega
 have aik:nb≤501:=by omega
 generalize xs.length=lx at *;generalize ys.length=ly at *;obtain ⟨m,hm⟩:∃ m,min lx ly=m:=⟨_,rfl⟩;have hm1:(if (ly:Int)<(lx:Int) then (ly:Int) else (lx:Int))=(m:Int):=by split<;>omega
 have hm3:(if ly<lx then (ly:Int) else (lx:Int))=(m:Int):=by split<;>omega
 have agN:decide ((12:Int)≤(m:Int))=true:=by rw [decide_eq_true_iff];omega
 have hE:=Ext.refl w;clear hna hnb h12 hm;go_enter func133,ntmps133;go_wp2_with (fail);refine (hPa.out _ ha).mono ?_;rintro e w2 ⟨rfl,ho1,hB⟩;replace hE:=hE.below hB;replace hb:=hb.below hB;clear hB ha;go_wp2_with (fail);refine (hPb.out _ hb).mono ?_;rintro e w3 ⟨rfl,ho2,hB⟩;replace hE:=hE.below hB;replace ho1:=ho1.ext hB;clear hB hb;go_wp2_with (fail);refine (F6 w3 (w.heap.size+1) (w2.heap.size+1) _ _ _ _ (ho1.KZ hHP.out.1 _ (by omega)) (ho2.KZ hHP.out.2 _ (by omega)) na nb hHL.out.1 hHL.out.2 (by omega)).mono ?_;rintro e w4 ⟨hp,hB⟩;obtain ⟨g,c,o,rfl,ho,hv,hl,hlen⟩:=hp.open (na+nb) rfl;replace hE:=hE.below hB;clear hB ho1 ho2 hp;go_wp2_with (fail);refine (Br w4 (g+1) _ o (ho.KZ hl _ (by omega)) (by omega)).mono ?_;rintro e w5 ⟨⟨u,rfl,hu⟩,hB⟩;rw [hv,hHW.out.1,hHW.out.2] at hu;replace hE:=hE.below hB;have HF:Hid (∃ u',Ending.returned u = .returned u'∧Un w5 u' (val xs*val ys)):=⟨_,rfl,hu⟩;clear hB ho hu hv hl hlen;go_wp2;go_ret;exact ⟨HF.out,hE⟩
theorem Bt (w:World) (va vb:Value) (xs ys:List Nat) (ha:U w va xs) (hb:U w vb ys) (hla:xs.length≤1000) (hlb:ys.length≤1000) :Calls prog 133 #[va,vb] w fun e w'=>(∃ u,e = .returned u∧Un w' u (val xs*val ys))∧Ext w w':=by
 by_cases h:12≤min xs.length ys.length
 · exact Pn w va vb xs ys ha hb hla hlb h
 · by_cases hlt:xs.length<ys.length
   · have:=DR true w vb va ys xs _ _ hb ha rfl rfl (by omega) (fun _=>hlt) (by omega) hlb;rw [Nat.mul_comm (val ys)] at this;exact this
   · exact DR false w va vb xs ys _ _ ha hb rfl rfl (by omega) (fun h=>by cases h) (by omega) hla
theorem aaQ (w:World) (va vb:Value) (xs ys:List Nat) (ha:U w va xs) (hb:U w vb ys) (hla:xs.length≤1000) (hlb:ys.length≤1000) (h78:min xs.length ys.length≤78) :Calls prog 94 #[va,vb] w fun e w'=>(∃ u,e = .returned u∧Un w' u (val xs*val ys))∧Ext w w':=by
 obtain ⟨A,ca,rfl,hca⟩:=ha.shape;obtain ⟨A2,cb,rfl,hcb⟩:=hb.shape;have hSc:=Lib.hid (Bt w _ _ xs ys ha hb hla hlb);generalize xs.length=lx at *;generalize ys.length=ly at *;obtain ⟨m,hm⟩:∃ m,min lx ly=m:=⟨_,rfl⟩;have hm1:(if (ly:Int)<(lx:Int) then (ly:Int) else (lx:Int))=(m:Int):=by split<;>omega
 have hm3:(if ly<lx then (ly:Int) else (lx:Int))=(m:Int):=by split<;>omega
 obtain ⟨q,hq⟩:∃ q,(m+1)/2=q:=⟨_,rfl⟩;have hqi:((m:Int)+1)/2=(q:Int):=by omega
 have h40:q<40:=by omega
 clear ha hb hm hq h78;have hd:decide ((q:Int)<40)=true:=by rw [decide_eq_true_iff];omega
 go_enter func94,ntmps94;go_wp2_with (fail);refine hSc.out.mono ?_;rintro e w1 ⟨⟨u,rfl,hu⟩,hB⟩;have HF:Hid (∃ u',Ending.returned u = .returned u'∧Un w1 u' (val xs*val ys)):=⟨_,rfl,hu⟩;clear hu;go_wp2;go_ret;exact ⟨HF.out,hB⟩
