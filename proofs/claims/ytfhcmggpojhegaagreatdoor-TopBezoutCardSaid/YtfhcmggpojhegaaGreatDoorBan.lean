/- Differences; limbs in words of 64 bits and back. -/
import Derived.Test.YtfhcmggpojhegaaGreatDoorBam
import Derived.Test.YtfhcmggpojhegaaGreatDoorBak
import Derived.Test.YtfhcmggpojhegaaGreatDoorBah

namespace Go.Proofs.YtfhcmggpojhegaaGreatDoor
open Go.RowKit
set_option linter.unusedVariables false
set_option maxHeartbeats 400000
set_option maxRecDepth 100000 in
set_option maxHeartbeats 4000000 in
theorem DD (w:World) (v:Value) (xs:List Nat) (h:U w v xs) (hl:xs.length≤100000) (n:Nat) (hn:(xs.length+1)/2≤n) (hn2:n≤100000) :
  Calls Tryz.prog 176 #[v,.int .i64 (n:Nat)] w fun e w'=>e = .returned (.slice (some ⟨w.heap.size,0,none⟩) n n)∧(∃ o,Ow w' w.heap.size (.slice (some ⟨w.heap.size,0,none⟩) n n) o∧aV o=val xs∧(∀ x∈o,x<18446744073709551616)∧o.length=n)∧Ext w w':=by
 obtain ⟨A,c,rfl,⟨hc,hmx⟩,hx,hr⟩:=h
 obtain ⟨i0,hi,hz0,hz1,hz2⟩:=info_parts tX
 obtain ⟨L,hL⟩:∃ L,xs.length=L:=⟨_,rfl⟩
 rw [hL] at hc hmx hr hl hn ⊢
 have HDN:Hid (∀ o,SN xs n L o→aV o=val xs∧∀ x∈o,x<18446744073709551616):=fun o h=>h.done hL hn hx
 obtain ⟨B,hB⟩:∃ B,w.heap.size=B:=⟨_,rfl⟩
 rw [hB]
 have lC:Hid (SN xs n 0 (List.replicate n 0)):=SN.start xs n
 clear hL
 go_enter Tryz.func176,Tryz.ntmps176
 go_wp2_with (at_make;refine wpList_make_full _ rfl _ _ 72 rfl w.heap.size 82 i0 (.int .u64 0) 1 Tryz.underlying72 hi hz0 hz1 _ _ _ _ n rfl rfl (by omega) (by omega) (by rw [hz2];omega) (by unfold maxLen;omega) (Nat.le_refl _) ?_;intro w1 hown hgrow)
 have ho0:=Ow.zeros hown
 have hE0:Ext w w1:=(Ext.refl w).grown hgrow (Nat.le_refl _) (fun _ h=>by cases h)
 rw [hB] at ho0
 clear hown hgrow hi hz0 hz1 hz2 i0
 go_wp2
 go_loopw [12] (fun t wr=>∃ (i:Nat) (o:List Nat),i≤L∧t = .int .i64 (i:Nat)∧Hid (SN xs n i o)∧Ow wr B (.slice (some ⟨B,0,none⟩) n n) o∧Ext w wr) (fun t _=>L-(intOf t).toNat)
 case atStart=>exact ⟨0,_,Nat.zero_le _,rfl,lC,ho0,hE0⟩
 case round =>
  clear ho0 hE0 lC
  obtain ⟨i,o,hiq,rfl,HO,hown,hE⟩:=hrel
  by_cases hlt:i<L
  · obtain ⟨ad,rfl,hb,hcell⟩:=hr (by omega)
    have hc0:=(hE.cell (p:=ad.add i) (by rw [aJ];exact hb)).trans (hcell i (by omega))
    have hxb:=eU hx i
    obtain ⟨x,hx0⟩:∃ x,lb xs i=x:=⟨_,rfl⟩
    rw [hx0] at hc0 hxb
    have hxw:=iP (show x<18446744073709551616 by omega)
    have hxm:=iY (show x<18446744073709551616 by omega)
    have hbn:(ad.add i).block≠B:=by rw [aJ];omega
    obtain ⟨k,hk⟩:∃ k,i/2=k:=⟨_,rfl⟩
    have k1:(i:Int)/2=(k:Int):=by omega
    have k2:(i:Int).tdiv 2=(k:Int):=by rw [Int.tdiv_eq_ediv_of_nonneg (by omega)];exact k1
    have k3:(k:Int)<(n:Int):=by omega
    have k4:(0:Int)≤(k:Int):=Int.natCast_nonneg k
    have k5:=KC (show k≤1000000 by omega)
    have k6:k<n:=by omega
    have hf:=hown.frozen k
    have hcz:=hown.cell (j:=k) k6
    rcases (show i=2*k∨i=2*k+1 by omega) with e | e
    · obtain ⟨p1,p2⟩:=HO.out.low k e k6 x hx0
      rw [p1] at hcz
      have HST:=Lib.hid p2
      have m1:(i:Int)%2=0:=by omega
      have m2:(i:Int).tmod 2=0:=by rw [Int.tmod_eq_emod_of_nonneg (by omega)];exact m1
      have o1:bits .or .u64 0 (x:Int)=(x:Int):=by
       have:=u64_or_nat 0 x (by decide) (by omega)
       rw [Nat.zero_or] at this
       exact this
      have hown2:=hown.mQ k x
      have hE2:=hE.setCell (p:=⟨B,k,none⟩) (by rw [hB];exact Nat.le_refl _) (.int .u64 (x:Nat))
      clear hx0 hk e p1 p2 hown HO hE hxb
      go_wp2
      go_region
      all_goals
       go_wp2
       go_roundw
       case rel=>exact ⟨i+1,_,by omega,by go_num,HST,hown2.drew,hE2.drew⟩
       case measure=>simp [intOf];omega
    · obtain ⟨p1,p2⟩:=HO.out.high k e k6 x hx0
      have hyb:=eU hx (2*k)
      obtain ⟨y,hy0⟩:∃ y,lb o k=y:=⟨_,rfl⟩
      rw [hy0] at hcz p1 p2
      rw [← p1] at hyb
      obtain ⟨z,hz⟩:∃ z,y+4294967296*x=z:=⟨_,rfl⟩
      rw [hz] at p2
      have HST:=Lib.hid p2
      have m1:(i:Int)%2=1:=by omega
      have m2:(i:Int).tmod 2=1:=by rw [Int.tmod_eq_emod_of_nonneg (by omega)];exact m1
      have o1:=u64_or32 y x z hyb hxb hz
      have o2:(x:Int)*4294967296=((4294967296*x:Nat):Int):=by omega
      have o3:=iP (show 4294967296*x<18446744073709551616 by omega)
      have o4:=iY (show 4294967296*x<18446744073709551616 by omega)
      have hown2:=hown.mQ k z
      have hE2:=hE.setCell (p:=⟨B,k,none⟩) (by rw [hB];exact Nat.le_refl _) (.int .u64 (z:Nat))
      generalize 4294967296*x=x2 at *
      clear hx0 hk e p1 p2 hown HO hE hxb hyb hy0 hz
      go_wp2
      go_region
      all_goals
       go_wp2
       go_roundw
       case rel=>exact ⟨i+1,_,by omega,by go_num,HST,hown2.drew,hE2.drew⟩
       case measure=>simp [intOf];omega
  · obtain rfl:i=L:=by omega
    obtain ⟨d1,d2⟩:=HDN.out o HO.out
    have HF:Hid (∃ o,Ow wr B (.slice (some ⟨B,0,none⟩) n n) o∧aV o=val xs∧(∀ x∈o,x<18446744073709551616)∧o.length=n):=⟨o,hown,d1,d2,HO.out.len⟩
    clear d1 d2 hown HO
    go_wp2
    go_ret
    exact ⟨rfl,HF.out,hE⟩
set_option maxRecDepth 100000 in
set_option maxHeartbeats 4000000 in
theorem yc (w:World) (g0:Nat) (v:Value) (ws:List Nat) (h:V g0 w v ws) (hl:ws.length≤1000000) (k:Nat) (hk:aV ws=k) :
  Calls Tryz.prog 178 #[v] w fun e w'=>(∃ u,e = .returned u∧Un w' u k)∧Ext w w':=by
 obtain ⟨A,c,rfl,⟨hc,hmx⟩,hx,hr⟩:=h
 obtain ⟨i0,hi,hz0,hz1,hz2⟩:=info_parts pR
 obtain ⟨n,hn⟩:∃ n,ws.length=n:=⟨_,rfl⟩
 rw [hn] at hc hmx hr hl ⊢
 obtain ⟨m,hm⟩:∃ m,2*n=m:=⟨_,rfl⟩
 have HM:Hid ((fE ws).length=m):=by rw [Hid,DF,hn];exact hm
 have SX:(2:Int)*(n:Int)=(m:Int):=by omega
 obtain ⟨B,hB⟩:∃ B,w.heap.size=B:=⟨_,rfl⟩
 have hm1:m≤2000000:=by omega
 have HW:=Lib.hid (Fa ws hx)
 have HTR:=Lib.hid (fun W v h=>Ca W v (fE ws) h k (by rw [DI];exact hk))
 clear hn hk
 go_enter Tryz.func178,Tryz.ntmps178
 go_wp2_with (at_make;refine wpList_make_full _ rfl _ _ 22 rfl w.heap.size 27 i0 (.int .u32 0) 1 Tryz.underlying22 hi hz0 hz1 _ _ _ _ m rfl rfl (by omega) (by omega) (by rw [hz2];omega) (by unfold maxLen;omega) (Nat.le_refl _) ?_;intro w1 hown hgrow)
 have ho0:Own w1 w.heap.size (.slice (some ⟨w.heap.size,0,none⟩) m m) (List.replicate m 0):=by
  have:=Own.zeros hown
  rwa [List.length_replicate] at this
 have hE0:Ext w w1:=(Ext.refl w).grown hgrow (Nat.le_refl _) (fun _ h=>by cases h)
 rw [hB] at ho0
 clear hown hgrow hi hz0 hz1 hz2 i0
 go_wp2
 go_loopw [12] (fun t wr=>∃ (i:Nat) (o:List Nat),i≤n∧t = .int .i64 (i:Nat)∧Hid (UnI ws m i o)∧Own wr B (.slice (some ⟨B,0,none⟩) m m) o∧Ext w wr) (fun t _=>n-(intOf t).toNat)
 case atStart=>exact ⟨0,_,Nat.zero_le _,rfl,⟨by simp,fun j hj=>absurd hj (by omega)⟩,ho0,hE0⟩
 case round =>
  clear ho0 hE0
  obtain ⟨i,o,hiq,rfl,HO,hown,hE⟩:=hrel
  by_cases hlt:i<n
  · obtain ⟨ad,rfl,hb,hne,hcell⟩:=hr (by omega)
    have hc0:=(hE.cell (p:=ad.add i) (by rw [aJ];exact hb)).trans (hcell i hlt)
    have hb0:lb ws i<18446744073709551616:=bK (by decide) hx i
    obtain ⟨x,hx0⟩:∃ x,lb ws i=x:=⟨_,rfl⟩
    rw [hx0] at hc0 hb0
    have HST:Hid (UnI ws m (i+1) ((o.set (2*i) (x%4294967296)).set (2*i+1) (x/4294967296))):=HO.out.step (by omega) x hx0
    have hol:=HO.out.len
    have hf0:=hown.frozen' (2*i)
    have hf1:=hown.frozen' (2*i+1)
    have hk0:=hown.rd.2 (2*i) (by omega)
    have hk1:=hown.rd.2 (2*i+1) (by omega)
    have hown2:=(hown.set' (2*i) (x%4294967296)).set' (2*i+1) (x/4294967296)
    have hE2:=(hE.setCell (p:=⟨B,2*i,none⟩) (by rw [hB];exact Nat.le_refl _) (.int .u32 (x%4294967296:Nat))).setCell (p:=⟨B,2*i+1,none⟩) (by rw [hB];exact Nat.le_refl _) (.int .u32 (x/4294967296:Nat))
    obtain ⟨x0,Xw⟩:∃ x0,x%4294967296=x0:=⟨_,rfl⟩
    obtain ⟨x1,Xx⟩:∃ x1,x/4294967296=x1:=⟨_,rfl⟩
    rw [Xw,Xx] at HST hown2 hE2
    have f0:IntKind.u32.wrap (x:Int)=(x0:Int):=by rw [IntKind.wrap_u32];omega
    have f00:(x:Int)%4294967296=(x0:Int):=by omega
    have f1:(x:Int)/4294967296=(x1:Int):=by omega
    have ac0:x1<4294967296:=by omega
    have f2:IntKind.u32.wrap (x1:Int)=(x1:Int):=by rw [IntKind.wrap_u32];omega
    have f3:(x1:Int)%4294967296=(x1:Int):=by omega
    have h2a:(0:Int)≤2*(i:Int):=by omega
    have h2b:2*(i:Int)<(m:Int):=by omega
    have h2c:2*(i:Int)+1<(m:Int):=by omega
    have h2d:(2*(i:Int)).toNat=2*i:=by omega
    have h2e:(2*(i:Int)+1).toNat=2*i+1:=by omega
    have hbn:(ad.add i).block≠B:=by rw [aJ];omega
    clear hx0 hb0 Xw Xx hown HO hE hol
    go_wp2
    go_roundw
    case rel=>exact ⟨i+1,_,by omega,by go_num,HST,hown2,hE2⟩
    case measure=>simp [intOf];omega
  · obtain rfl:i=n:=by omega
    have hdone:=HO.out.done HM.out hm
    rw [hdone] at hown
    have hu:=hown.KG HW.out (by rw [HM.out];omega)
    clear hdone HO hown
    go_wp2_with (fail)
    refine (HTR.out _ _ hu).mono ?_
    rintro e w2 ⟨u,rfl,hu2,hB2⟩
    have HF:Hid (∃ u',Ending.returned u = .returned u'∧Un w2 u' k):=⟨_,rfl,hu2⟩
    replace hE:=hE.below hB2
    clear hu2 hu hB2
    go_wp2
    go_ret
    exact ⟨HF.out,hE⟩
end Go.Proofs.YtfhcmggpojhegaaGreatDoor
/- The document's own Low and Cmp. -/
namespace Go.Proofs.YtfhcmggpojhegaaGreatDoor
open Go.RowKit
set_option linter.unusedVariables false
set_option maxHeartbeats 400000
set_option maxRecDepth 100000
theorem lK (xs:List Nat) (k:Nat) (h:k<xs.length):val (xs.drop k)=lb xs k+4294967296*val (xs.drop (k+1)):=by
 rw [List.drop_eq_getElem_cons h]
 have:lb xs k=xs[k]:=by simp [lb,h]
 rw [this];rfl
end Go.Proofs.YtfhcmggpojhegaaGreatDoor
/- Quotient and rest by a limb. -/
namespace Go.Proofs.YtfhcmggpojhegaaGreatDoor
open Go.RowKit
set_option linter.unusedVariables false
set_option maxHeartbeats 400000
theorem Ve (x y z:Nat) (hx:x<4294967296) (hy:y<4294967296) (hz:4294967296*y+x=z):bits .or .u64 ((4294967296*y:Nat):Int) (x:Int)=(z:Int):=by
 rw [u64_or_nat _ _ (by omega) (by omega),nat_join 32 _ x (Nat.mul_mod_right _ _) hx,hz]
theorem SY {k:Nat} (h:k<4294967296):IntKind.u32.wrap (k:Int)=(k:Int):=by rw [IntKind.wrap_u32];omega
theorem S9 {k:Nat} (h:k<4294967296):(k:Int)%4294967296=(k:Int):=by omega
structure SmI (xs:List Nat) (m k:Nat) (o:List Nat) (r:Nat):Prop where
 len:o.length=xs.length
 lt:∀ x∈o,x<4294967296
 val:val (xs.drop k)=val (o.drop k)*m+r
 small:r<m
theorem SmI.step {xs:List Nat} {m k:Nat} {o:List Nat} {r:Nat} (h:SmI xs m (k+1) o r) (hk:k<xs.length) (x z q s:Nat) (hx:lb xs k=x) (hz:4294967296*r+x=z) (hxb:x<4294967296) (hq:z/m=q) (hs:z%m=s):q<4294967296∧SmI xs m k (o.set k q) s:=by
 have hm:=h.small
 have Px:q<4294967296:=by
  rw [← hq]
  exact Nat.div_lt_of_lt_mul (by have:=Nat.mul_le_mul_right 4294967296 (show r+1≤m from hm);omega)
 refine ⟨Px,by simp [h.len],fO h.lt Px,?_,by rw [← hs];exact Nat.mod_lt _ (by omega)⟩
 have h1:=lK xs k hk
 have h2:=lK (o.set k q) k (by simp [h.len];exact hk)
 rw [mI _ (by rw [h.len];exact hk),List.drop_set_of_lt (show k<k+1 by omega)] at h2
 have h3:q*m+s=z:=by rw [← hq,← hs,Nat.mul_comm];exact Nat.div_add_mod _ _
 rw [h1,h2,hx,h.val,Nat.add_mul,Nat.mul_add,Nat.mul_assoc]
 omega
set_option maxRecDepth 100000 in
set_option maxHeartbeats 4000000 in
theorem DJ (w:World) (v:Value) (a m:Nat) (h:Un w v a) (hl:(limbs a).length≤1000000) (hm:m<4294967296) (h0:m≠0) (q r:Nat) (hq:a/m=q) (hr:a%m=r) :
  Calls Tryz.prog 125 #[v,.int .u32 (m:Nat)] w fun e w'=>(∃ u,e = .returned (.tuple #[u,.int .u32 (r:Nat),.int .i64 0])∧Un w' u q)∧Ext w w':=by
 have hva:=aO a
 have h':U w v (limbs a):=h
 generalize limbs a=xs at *
 clear h
 obtain ⟨A,c,rfl,⟨hc,hmx⟩,hx,hr0⟩:=h'
 obtain ⟨i0,hi,hz0,hz1,hz2⟩:=info_parts pR
 obtain ⟨L,hL⟩:∃ L,xs.length=L:=⟨_,rfl⟩
 have HL:=Lib.hid hL
 rw [hL] at hc hmx hr0 hl ⊢
 have HDN:Hid (∀ o s,SmI xs m 0 o s→val o=q∧s=r):=fun o s h=>by
  have h1:=h.val
  rw [List.drop_zero,List.drop_zero,hva] at h1
  obtain ⟨a1,a2⟩:=zG m a (val o) s h1.symm h.small
  exact ⟨by rw [← hq,a1],by rw [← hr,a2]⟩
 have HS0:Hid (SmI xs m L (List.replicate L 0) 0):=⟨by simp [hL],by simp,by rw [List.drop_eq_nil_of_le (by omega),List.drop_eq_nil_of_le (by simp)];simp [val],by omega⟩
 obtain ⟨B,hB⟩:∃ B,w.heap.size=B:=⟨_,rfl⟩
 have hmz:((m:Int)==0)=false:=by rw [beq_eq_false_iff_ne];omega
 have ayC:¬ ((m:Int)=0):=by omega
 have hmw:=iP (show m<18446744073709551616 by omega)
 have ayD:=iY (show m<18446744073709551616 by omega)
 have HM:=Lib.hid hm
 have hrb:r<4294967296:=by rw [← hr];exact Nat.lt_trans (Nat.mod_lt _ (by omega)) hm
 have HRB:=Lib.hid hrb
 clear hL hq hr hva hm hrb
 go_enter Tryz.func125,Tryz.ntmps125
 go_wp2_with (at_make;refine wpList_make_full _ rfl _ _ 22 rfl w.heap.size 27 i0 (.int .u32 0) 1 Tryz.underlying22 hi hz0 hz1 _ _ _ _ L rfl rfl (by omega) (by omega) (by rw [hz2];omega) (by unfold maxLen;omega) (Nat.le_refl _) ?_;intro w1 hown hgrow)
 have ho0:Own w1 w.heap.size (.slice (some ⟨w.heap.size,0,none⟩) L L) (List.replicate L 0):=by
  have:=Own.zeros hown
  rwa [List.length_replicate] at this
 have hE0:Ext w w1:=(Ext.refl w).grown hgrow (Nat.le_refl _) (fun _ h=>by cases h)
 rw [hB] at ho0
 clear hown hgrow hi hz0 hz1 hz2 i0
 go_wp2
 go_loopw [9,8] (fun t s wr=>∃ (k:Nat) (z:Int) (o:List Nat) (rs:Nat),k≤L∧t = .int .i64 z∧z=(k:Int)-1∧s = .int .u64 (rs:Nat)∧Hid (SmI xs m k o rs)∧Own wr B (.slice (some ⟨B,0,none⟩) L L) o∧Ext w wr) (fun t _ _=>(intOf t+1).toNat)
 case atStart=>exact ⟨L,_,_,0,Nat.le_refl _,rfl,rfl,rfl,HS0,ho0,hE0⟩
 case round =>
  clear ho0 hE0 HS0
  obtain ⟨k,z,o,rs,hk,rfl,hz,rfl,HO,hown,hE⟩:=hrel
  cases k with
  | zero =>
   obtain rfl:z = -1:=by omega
   obtain ⟨d1,rfl⟩:=HDN.out o rs HO.out
   have hol:=HO.out.len
   have hu:=hown.KG HO.out.lt (by rw [hol,HL.out];omega)
   have HMK:=Lib.hid (Ca _ _ _ hu q d1)
   have hw1:=SY HRB.out
   have hw2:=S9 HRB.out
   clear d1 hown HO hol hu HDN hz
   go_wp2_with (fail)
   refine HMK.out.mono ?_
   rintro e w2 ⟨u,rfl,hu,hB2⟩
   have HF:Hid (∃ u',Ending.returned (.tuple #[u,.int .u32 (rs:Nat),.int .i64 0]) = .returned (.tuple #[u',.int .u32 (rs:Nat),.int .i64 0])∧Un w2 u' q):=⟨_,rfl,hu⟩
   replace hE:=hE.below hB2
   clear hu hB2 HMK
   go_wp2
   go_ret3
   exact ⟨HF.out,hE⟩
  | succ j =>
   obtain rfl:z=(j:Int):=by omega
   obtain ⟨ad,rfl,hb,hcell⟩:=hr0 (by omega)
   have hc0:=(hE.cell (p:=ad.add j) (by rw [aJ];exact hb)).trans (hcell j (by omega))
   have hxb:=eU hx j
   obtain ⟨x,hx0⟩:∃ x,lb xs j=x:=⟨_,rfl⟩
   rw [hx0] at hc0 hxb
   have hrs:=HO.out.small
   have hm2:=HM.out
   obtain ⟨y,hy⟩:∃ y,4294967296*rs+x=y:=⟨_,rfl⟩
   obtain ⟨p,hp⟩:∃ p,y/m=p:=⟨_,rfl⟩
   obtain ⟨s,hs⟩:∃ s,y%m=s:=⟨_,rfl⟩
   obtain ⟨hpb,hst⟩:=HO.out.step (by rw [HL.out];omega) x y p s hx0 hy hxb hp hs
   have HST:=Lib.hid hst
   have o1:=Ve x rs y hxb (by omega) hy
   have o2:(rs:Int)*4294967296=((4294967296*rs:Nat):Int):=by omega
   have o3:=iP (show 4294967296*rs<18446744073709551616 by omega)
   have o4:=iY (show 4294967296*rs<18446744073709551616 by omega)
   have o5:=iP (show x<18446744073709551616 by omega)
   have o6:=iY (show x<18446744073709551616 by omega)
   have o7:(y:Int).tdiv (m:Int)=(p:Int):=by rw [Int.tdiv_eq_ediv_of_nonneg (Int.natCast_nonneg _),← hp,Int.natCast_ediv]
   have o8:(y:Int).tmod (m:Int)=(s:Int):=by rw [Int.tmod_eq_emod_of_nonneg (Int.natCast_nonneg _),← hs,Int.natCast_emod]
   have o7':(y:Int)/(m:Int)=(p:Int):=by rw [← hp,Int.natCast_ediv]
   have o8':(y:Int)%(m:Int)=(s:Int):=by rw [← hs,Int.natCast_emod]
   have o9:=SY hpb
   have o10:=S9 hpb
   have o11:=iP (show p<18446744073709551616 by omega)
   have o12:=iY (show p<18446744073709551616 by omega)
   have hsb:s<18446744073709551616:=by rw [← hs];exact Nat.lt_trans (Nat.mod_lt _ (by omega)) (by omega)
   have o13:=iP hsb
   have o14:=iY hsb
   have hol:=HO.out.len
   have hjl:j<o.length:=by rw [hol,HL.out];omega
   have hf:=hown.frozen' j
   have hcz:=hown.rd.2 j hjl
   have hown2:=hown.set' j p
   have hE2:=hE.setCell (p:=⟨B,j,none⟩) (by rw [hB];exact Nat.le_refl _) (.int .u32 (p:Nat))
   have hbn:(ad.add j).block≠B:=by rw [aJ];omega
   have hj2:j<L:=by omega
   generalize 4294967296*rs=y2 at *
   clear hx0 hxb hrs hm2 hp hs hpb hst hy hsb hown HO hE hol hjl hz
   go_wp2
   go_roundw
   case rel=>exact ⟨j,_,_,s,by omega,rfl,rfl,rfl,HST,hown2,hE2⟩
   case measure=>simp [intOf]
end Go.Proofs.YtfhcmggpojhegaaGreatDoor
