/- Differences; limbs in words of 64 bits and back. -/
import Derived.Test.YtdpmbgomcjnohaaGreatDoorBal
import Derived.Test.YtdpmbgomcjnohaaGreatDoorBaj
import Derived.Test.YtdpmbgomcjnohaaGreatDoorBag

namespace Go.Proofs.YtdpmbgomcjnohaaGreatDoor
open Go.RowKit
set_option linter.unusedVariables false
set_option maxHeartbeats 400000
set_option maxRecDepth 100000 in
set_option maxHeartbeats 4000000 in
theorem y5 (w:World) (v:Value) (xs:List Nat) (h:U w v xs) (hl:xs.length≤100000) (n:Nat) (hn:(xs.length+1)/2≤n) (hn2:n≤100000) :
  Calls Tryz.prog 202 #[v,.int .i64 (n:Nat)] w fun e w'=>e = .returned (.slice (some ⟨w.heap.size,0,none⟩) n n)∧(∃ o,Ow w' w.heap.size (.slice (some ⟨w.heap.size,0,none⟩) n n) o∧aU o=val xs∧(∀ x∈o,x<18446744073709551616)∧o.length=n)∧Ext w w':=by
 obtain ⟨A,c,rfl,⟨hc,hmx⟩,hx,hr⟩:=h
 obtain ⟨i0,hi,hz0,hz1,hz2⟩:=info_parts rO
 obtain ⟨L,hL⟩:∃ L,xs.length=L:=⟨_,rfl⟩
 rw [hL] at hc hmx hr hl hn ⊢
 have SS:Hid (∀ o,LK xs n L o→aU o=val xs∧∀ x∈o,x<18446744073709551616):=fun o h=>h.done hL hn hx
 obtain ⟨B,hB⟩:∃ B,w.heap.size=B:=⟨_,rfl⟩
 rw [hB]
 have gY:Hid (LK xs n 0 (List.replicate n 0)):=LK.start xs n
 clear hL
 go_enter Tryz.func202,Tryz.ntmps202
 go_wp2_with (at_make;refine wpList_make_full _ rfl _ _ 139 rfl w.heap.size 100 i0 (.int .u64 0) 1 Tryz.underlying139 hi hz0 hz1 _ _ _ _ n rfl rfl (by omega) (by omega) (by rw [hz2];omega) (by unfold maxLen;omega) (Nat.le_refl _) ?_;intro w1 hown hgrow)
 have ho0:=Ow.zeros hown
 have hE0:Ext w w1:=(Ext.refl w).grown hgrow (Nat.le_refl _) (fun _ h=>by cases h)
 rw [hB] at ho0
 clear hown hgrow hi hz0 hz1 hz2 i0
 go_wp2
 go_loopw [12] (fun t wr=>∃ (i:Nat) (o:List Nat),i≤L∧t = .int .i64 (i:Nat)∧Hid (LK xs n i o)∧Ow wr B (.slice (some ⟨B,0,none⟩) n n) o∧Ext w wr) (fun t _=>L-(intOf t).toNat)
 case atStart=>exact ⟨0,_,Nat.zero_le _,rfl,gY,ho0,hE0⟩
 case round =>
  clear ho0 hE0 gY
  obtain ⟨i,o,hiq,rfl,HO,hown,hE⟩:=hrel
  by_cases hlt:i<L
  · obtain ⟨ad,rfl,hb,hcell⟩:=hr (by omega)
    have hc0:=(hE.cell (p:=ad.add i) (by rw [aF];exact hb)).trans (hcell i (by omega))
    have hxb:=cK hx i
    obtain ⟨x,hx0⟩:∃ x,lb xs i=x:=⟨_,rfl⟩
    rw [hx0] at hc0 hxb
    have hxw:=jW (show x<18446744073709551616 by omega)
    have hxm:=kU (show x<18446744073709551616 by omega)
    have hbn:(ad.add i).block≠B:=by rw [aF];omega
    obtain ⟨k,hk⟩:∃ k,i/2=k:=⟨_,rfl⟩
    have k1:(i:Int)/2=(k:Int):=by omega
    have k2:(i:Int).tdiv 2=(k:Int):=by rw [Int.tdiv_eq_ediv_of_nonneg (by omega)];exact k1
    have k3:(k:Int)<(n:Int):=by omega
    have k4:(0:Int)≤(k:Int):=Int.natCast_nonneg k
    have k5:=wE (show k≤1000000 by omega)
    have k6:k<n:=by omega
    have hf:=hown.frozen k
    have hcz:=hown.cell (j:=k) k6
    rcases (show i=2*k∨i=2*k+1 by omega) with e | e
    · obtain ⟨p1,p2⟩:=HO.out.low k e k6 x hx0
      rw [p1] at hcz
      have HST:=Lib.hid p2
      have m1:(i:Int)%2=0:=by omega
      have m2:(i:Int).tmod 2=0:=by rw [Int.tmod_eq_emod_of_nonneg (by omega)];exact m1
      have o1:bits .or .u64 0 (x:Int)=(x:Int):=by
       have:=u64_or_nat 0 x (by decide) (by omega)
       rw [Nat.zero_or] at this
       exact this
      have hown2:=hown.nO k x
      have hE2:=hE.setCell (p:=⟨B,k,none⟩) (by rw [hB];exact Nat.le_refl _) (.int .u64 (x:Nat))
      clear hx0 hk e p1 p2 hown HO hE hxb
      go_wp2
      go_region
      all_goals
       go_wp2
       go_roundw
       case rel=>exact ⟨i+1,_,by omega,by go_num,HST,hown2.drew,hE2.drew⟩
       case measure=>simp [intOf];omega
    · obtain ⟨p1,p2⟩:=HO.out.high k e k6 x hx0
      have hyb:=cK hx (2*k)
      obtain ⟨y,hy0⟩:∃ y,lb o k=y:=⟨_,rfl⟩
      rw [hy0] at hcz p1 p2
      rw [← p1] at hyb
      obtain ⟨z,hz⟩:∃ z,y+4294967296*x=z:=⟨_,rfl⟩
      rw [hz] at p2
      have HST:=Lib.hid p2
      have m1:(i:Int)%2=1:=by omega
      have m2:(i:Int).tmod 2=1:=by rw [Int.tmod_eq_emod_of_nonneg (by omega)];exact m1
      have o1:=u64_or32 y x z hyb hxb hz
      have o2:(x:Int)*4294967296=((4294967296*x:Nat):Int):=by omega
      have o3:=jW (show 4294967296*x<18446744073709551616 by omega)
      have o4:=kU (show 4294967296*x<18446744073709551616 by omega)
      have hown2:=hown.nO k z
      have hE2:=hE.setCell (p:=⟨B,k,none⟩) (by rw [hB];exact Nat.le_refl _) (.int .u64 (z:Nat))
      generalize 4294967296*x=x2 at *
      clear hx0 hk e p1 p2 hown HO hE hxb hyb hy0 hz
      go_wp2
      go_region
      all_goals
       go_wp2
       go_roundw
       case rel=>exact ⟨i+1,_,by omega,by go_num,HST,hown2.drew,hE2.drew⟩
       case measure=>simp [intOf];omega
  · obtain rfl:i=L:=by omega
    obtain ⟨d1,d2⟩:=SS.out o HO.out
    have HF:Hid (∃ o,Ow wr B (.slice (some ⟨B,0,none⟩) n n) o∧aU o=val xs∧(∀ x∈o,x<18446744073709551616)∧o.length=n):=⟨o,hown,d1,d2,HO.out.len⟩
    clear d1 d2 hown HO
    go_wp2
    go_ret
    exact ⟨rfl,HF.out,hE⟩
set_option maxRecDepth 100000 in
set_option maxHeartbeats 4000000 in
theorem uK (w:World) (g0:Nat) (v:Value) (ws:List Nat) (h:V g0 w v ws) (hl:ws.length≤1000000) (k:Nat) (hk:aU ws=k) :
  Calls Tryz.prog 204 #[v] w fun e w'=>(∃ u,e = .returned u∧Un w' u k)∧Ext w w':=by
 obtain ⟨A,c,rfl,⟨hc,hmx⟩,hx,hr⟩:=h
 obtain ⟨i0,hi,hz0,hz1,hz2⟩:=info_parts qB
 obtain ⟨n,hn⟩:∃ n,ws.length=n:=⟨_,rfl⟩
 rw [hn] at hc hmx hr hl ⊢
 obtain ⟨m,hm⟩:∃ m,2*n=m:=⟨_,rfl⟩
 have HM:Hid ((eu ws).length=m):=by rw [Hid,y7,hn];exact hm
 have hmi:(2:Int)*(n:Int)=(m:Int):=by omega
 obtain ⟨B,hB⟩:∃ B,w.heap.size=B:=⟨_,rfl⟩
 have hm1:m≤2000000:=by omega
 have HW:=Lib.hid (AP ws hx)
 have HTR:=Lib.hid (fun W v h=>EI W v (eu ws) h k (by rw [y8];exact hk))
 clear hn hk
 go_enter Tryz.func204,Tryz.ntmps204
 go_wp2_with (at_make;refine wpList_make_full _ rfl _ _ 22 rfl w.heap.size 67 i0 (.int .u32 0) 1 Tryz.underlying22 hi hz0 hz1 _ _ _ _ m rfl rfl (by omega) (by omega) (by rw [hz2];omega) (by unfold maxLen;omega) (Nat.le_refl _) ?_;intro w1 hown hgrow)
 have ho0:Own w1 w.heap.size (.slice (some ⟨w.heap.size,0,none⟩) m m) (List.replicate m 0):=by
  have:=Own.zeros hown
  rwa [List.length_replicate] at this
 have hE0:Ext w w1:=(Ext.refl w).grown hgrow (Nat.le_refl _) (fun _ h=>by cases h)
 rw [hB] at ho0
 clear hown hgrow hi hz0 hz1 hz2 i0
 go_wp2
 go_loopw [12] (fun t wr=>∃ (i:Nat) (o:List Nat),i≤n∧t = .int .i64 (i:Nat)∧Hid (TB ws m i o)∧Own wr B (.slice (some ⟨B,0,none⟩) m m) o∧Ext w wr) (fun t _=>n-(intOf t).toNat)
 case atStart=>exact ⟨0,_,Nat.zero_le _,rfl,⟨by simp,fun j hj=>absurd hj (by omega)⟩,ho0,hE0⟩
 case round =>
  clear ho0 hE0
  obtain ⟨i,o,hiq,rfl,HO,hown,hE⟩:=hrel
  by_cases hlt:i<n
  · obtain ⟨ad,rfl,hb,hne,hcell⟩:=hr (by omega)
    have hc0:=(hE.cell (p:=ad.add i) (by rw [aF];exact hb)).trans (hcell i hlt)
    have hb0:lb ws i<18446744073709551616:=dh (by decide) hx i
    obtain ⟨x,hx0⟩:∃ x,lb ws i=x:=⟨_,rfl⟩
    rw [hx0] at hc0 hb0
    have HST:Hid (TB ws m (i+1) ((o.set (2*i) (x%4294967296)).set (2*i+1) (x/4294967296))):=HO.out.step (by omega) x hx0
    have hol:=HO.out.len
    have hf0:=hown.frozen' (2*i)
    have hf1:=hown.frozen' (2*i+1)
    have hk0:=hown.rd.2 (2*i) (by omega)
    have hk1:=hown.rd.2 (2*i+1) (by omega)
    have hown2:=(hown.set' (2*i) (x%4294967296)).set' (2*i+1) (x/4294967296)
    have hE2:=(hE.setCell (p:=⟨B,2*i,none⟩) (by rw [hB];exact Nat.le_refl _) (.int .u32 (x%4294967296:Nat))).setCell (p:=⟨B,2*i+1,none⟩) (by rw [hB];exact Nat.le_refl _) (.int .u32 (x/4294967296:Nat))
    obtain ⟨x0,OW⟩:∃ x0,x%4294967296=x0:=⟨_,rfl⟩
    obtain ⟨x1,OX⟩:∃ x1,x/4294967296=x1:=⟨_,rfl⟩
    rw [OW,OX] at HST hown2 hE2
    have f0:IntKind.u32.wrap (x:Int)=(x0:Int):=by rw [IntKind.wrap_u32];omega
    have f00:(x:Int)%4294967296=(x0:Int):=by omega
    have f1:(x:Int)/4294967296=(x1:Int):=by omega
    have TC:x1<4294967296:=by omega
    have f2:IntKind.u32.wrap (x1:Int)=(x1:Int):=by rw [IntKind.wrap_u32];omega
    have f3:(x1:Int)%4294967296=(x1:Int):=by omega
    have h2a:(0:Int)≤2*(i:Int):=by omega
    have h2b:2*(i:Int)<(m:Int):=by omega
    have h2c:2*(i:Int)+1<(m:Int):=by omega
    have h2d:(2*(i:Int)).toNat=2*i:=by omega
    have h2e:(2*(i:Int)+1).toNat=2*i+1:=by omega
    have hbn:(ad.add i).block≠B:=by rw [aF];omega
    clear hx0 hb0 OW OX hown HO hE hol
    go_wp2
    go_roundw
    case rel=>exact ⟨i+1,_,by omega,by go_num,HST,hown2,hE2⟩
    case measure=>simp [intOf];omega
  · obtain rfl:i=n:=by omega
    have hdone:=HO.out.done HM.out hm
    rw [hdone] at hown
    have hu:=hown.xX HW.out (by rw [HM.out];omega)
    clear hdone HO hown
    go_wp2_with (fail)
    refine (HTR.out _ _ hu).mono ?_
    rintro e w2 ⟨u,rfl,hu2,hB2⟩
    have HF:Hid (∃ u',Ending.returned u = .returned u'∧Un w2 u' k):=⟨_,rfl,hu2⟩
    replace hE:=hE.below hB2
    clear hu2 hu hB2
    go_wp2
    go_ret
    exact ⟨HF.out,hE⟩
end Go.Proofs.YtdpmbgomcjnohaaGreatDoor
/- The document's own Right, limb, Bit, Bits, Low, Cmp. -/
namespace Go.Proofs.YtdpmbgomcjnohaaGreatDoor
open Go.RowKit
set_option linter.unusedVariables false
set_option maxHeartbeats 400000
set_option maxRecDepth 100000
theorem Js (w:World) (v:Value) (xs:List Nat) (k:Nat) (h:U w v xs) :
  Calls Tryz.prog 108 #[v,.int .i64 (k:Int)] w fun e w'=>e = .returned (.int .u64 (lb xs k:Nat))∧w=w':=by
 obtain ⟨A,c,rfl,⟨hc,hm⟩,hx,hr⟩:=h
 have hkn:decide (((k:Nat):Int)<0)=false:=by rw [decide_eq_false_iff_not];omega
 by_cases h1:k<xs.length
 · obtain ⟨ad,rfl,hb,hcell⟩:=hr (by omega)
   have hc1:=hcell k h1
   have hL:=cK hx k
   have hw:IntKind.u64.wrap ((lb xs k:Nat):Int)=((lb xs k:Nat):Int):=by rw [IntKind.wrap_u64];omega
   go_enter Tryz.func108,Tryz.ntmps108
   go_wp2
   go_ret
   exact ⟨by first | rfl | rw [hw],rfl⟩
 · have HF:Hid (lb xs k=0):=pz (by omega)
   have hd:decide ((xs.length:Int)≤(k:Int))=true:=by rw [decide_eq_true_iff];omega
   go_enter Tryz.func108,Tryz.ntmps108
   go_wp2
   go_ret
   exact ⟨by rw [HF.out];rfl,rfl⟩
theorem Ls (w:World) (v:Value) (n:Nat) (i:Int) (hi0 : -9000000000000≤i) (hi1:i≤9000000000000) (h:Un w v n) :
  Calls Tryz.prog 56 #[v,.int .i64 i] w fun e w'=>e = .returned (.int .u32 (pG n i:Nat))∧w=w':=by
 obtain ⟨A,c,rfl,⟨hc,hm⟩,hx,hr⟩:=h
 by_cases h0:i<0
 · have HF:Hid (pG n i=0):=if_pos h0
   go_enter Tryz.func56,Tryz.ntmps56
   go_wp2
   go_ret
   exact ⟨by rw [HF.out];rfl,rfl⟩
 · obtain ⟨k,rfl⟩:=Int.eq_ofNat_of_zero_le (show 0≤i by omega)
   have hkn:decide (((k:Nat):Int)<0)=false:=by rw [decide_eq_false_iff_not];omega
   have HB:Hid (pG n (k:Int)=n/2^k%2):=by rw [Hid,pG,if_neg h0,Int.toNat_natCast]
   by_cases h1:k/32<(limbs n).length
   · obtain ⟨ad,rfl,hb,hcell⟩:=hr (by omega)
     have hc1:=hcell (k/32) h1
     have HL:=Lib.hid (cK hx (k/32))
     have HF:Hid (pG n (k:Int)=lb (limbs n) (k/32)/2^(k%32)%2):=by
      rw [Hid,HB.out,Jp n k]
     clear HB
     go_enter Tryz.func56,Tryz.ntmps56
     go_wp2_with (fail)
     go_loop [5,6] (fun x j=>∃ m:Nat,m≤k%32∧j = .int .i64 m∧x = .int .u32 (lb (limbs n) (k/32)/2^m:Nat)) (fun x j=>k%32-(intOf j).toNat)
     case atStart=>exact ⟨0,Nat.zero_le _,rfl,by simp⟩
     case round =>
      obtain ⟨m,hm2,rfl,rfl⟩:=hrel
      have hq:lb (limbs n) (k/32)/2^m<4294967296:=Nat.lt_of_le_of_lt (Nat.div_le_self _ _) HL.out
      by_cases hlt:m<k%32
      · have HN:Hid (((lb (limbs n) (k/32)/2^m:Nat):Int)/2=((lb (limbs n) (k/32)/2^(m+1):Nat):Int)):=by
         rw [Hid,Nat.pow_succ,← Nat.div_div_eq_div_mul];omega
        generalize lb (limbs n) (k/32)/2^m=X at *
        go_wp2
        go_round
        case rel=>exact ⟨m+1,by omega,by go_num,by rw [HN.out]⟩
        case measure=>simp [intOf];omega
      · obtain rfl:m=k%32:=by omega
        generalize lb (limbs n) (k/32)/2^(k%32)=X at *
        go_wp2
        go_ret
        exact ⟨by rw [HF.out];rfl,rfl⟩
   · have HF:Hid (pG n (k:Int)=0):=by rw [Hid,HB.out];exact Vr n k (by omega)
     go_enter Tryz.func56,Tryz.ntmps56
     go_wp2
     go_ret
     exact ⟨by rw [HF.out];rfl,rfl⟩
theorem Jt {t j:Nat} (h0:t/2^j=0) (h1:0<j→t/2^(j-1)≠0):fK t=j:=by
 have a:t<2^j:=by
  rcases Nat.lt_or_ge t (2^j) with h | h
  · exact h
  · have:=Nat.div_pos h (Nat.two_pow_pos j);omega
 rcases Nat.eq_zero_or_pos j with rfl | hj
 · have:t=0:=by simpa using a
   subst this;rfl
 · have b:2^(j-1)≤t:=by
    rcases Nat.lt_or_ge t (2^(j-1)) with h | h
    · exact absurd (Nat.div_eq_of_lt h) (h1 hj)
    · exact h
   have:=UB b (by rwa [show j-1+1=j by omega])
   omega
theorem Ju (w:World) (v:Value) (n:Nat) (h:Un w v n) (hl:(limbs n).length≤1000000000) :
  Calls Tryz.prog 114 #[v] w fun e w'=>e = .returned (.int .i64 (fK n:Nat))∧∃ m,w'=w.drewN m:=by
 obtain ⟨A,c,rfl,⟨hc,hm⟩,hx,hr⟩:=h
 by_cases h0:n=0
 · subst h0
   have hz:limbs 0=[]:=aX
   rw [hz]
   clear hz hr hx hm hl hc
   have HF:Hid (fK 0=0):=rfl
   go_enter Tryz.func114,Tryz.ntmps114
   go_wp2
   go_ret
   exact ⟨by rw [HF.out];rfl,0,rfl⟩
 · have HF:=Lib.hid (Dj n h0)
   have hlen:0<(limbs n).length:=by rw [d9 h0];simp
   obtain ⟨ad,rfl,hb,hcell⟩:=hr hlen
   have hc1:=hcell ((limbs n).length-1) (by omega)
   have hne:(((limbs n).length:Int)==0)=false:=by rw [beq_eq_false_iff_ne];omega
   have hL:=cK hx ((limbs n).length-1)
   have HL:=Lib.hid hL
   clear hL
   go_enter Tryz.func114,Tryz.ntmps114
   go_wp2_with (fail)
   go_region
   go_wp2_with (fail)
   clear hc1 hcell hr
   generalize ht:lb (limbs n) ((limbs n).length-1)=T at *
   clear ht
   go_loop [3,4] (fun m x=>∃ j:Nat,j≤32∧m = .int .i64 j∧x = .int .u32 (T/2^j:Nat)∧Hid (0<j→T/2^(j-1)≠0)) (fun m x=>33-(intOf m).toNat)
   case atStart=>exact ⟨0,Nat.zero_le _,rfl,by simp,fun h=>absurd h (by omega)⟩
   case round =>
    obtain ⟨j,hj,rfl,rfl,HZ⟩:=hrel
    have hq:T/2^j<4294967296:=Nat.lt_of_le_of_lt (Nat.div_le_self _ _) HL.out
    have HN:Hid (((T/2^j:Nat):Int)/2=((T/2^(j+1):Nat):Int)):=by
     rw [Hid,Nat.pow_succ,← Nat.div_div_eq_div_mul];omega
    rcases Nat.eq_zero_or_pos (T/2^j) with h0 | h0
    · have HT:Hid (fK T=j):=Jt h0 HZ.out
      rw [h0]
      clear h0 hq HN
      go_wp2
      go_ret
      exact ⟨by rw [HF.out,HT.out];exact uo (by omega),1,rfl⟩
    · have HP:Hid (T/2^j≠0):=by rw [Hid];omega
      have HJ:Hid (j<32):=by
       rw [Hid]
       rcases Nat.lt_or_ge j 32 with h | h
       · exact h
       · have:=Nat.pow_le_pow_right (n:=2) (by decide) h
         have h2:=HL.out
         exact absurd (Nat.div_eq_of_lt (Nat.lt_of_lt_of_le (by simpa using h2) this)) HP.out
      have HP':Hid (T/2^j≠0):=HP
      obtain ⟨X,hX⟩:∃ X,T/2^j=X:=⟨_,rfl⟩
      rw [hX] at HN HP hq h0
      rw [hX]
      clear hX
      go_wp2
      go_round
      case rel=>exact ⟨j+1,by have:=HJ.out;omega,by go_num,by rw [HN.out],fun _=>by rw [Nat.add_sub_cancel];exact HP'.out⟩
      case measure=>have:=HJ.out;simp [intOf];omega
end Go.Proofs.YtdpmbgomcjnohaaGreatDoor
/- The document's own Low and Cmp. -/
namespace Go.Proofs.YtdpmbgomcjnohaaGreatDoor
open Go.RowKit
set_option linter.unusedVariables false
set_option maxHeartbeats 400000
set_option maxRecDepth 100000
theorem bJ (w:World) (v:Value) (xs:List Nat) (i:Int) (k:Nat) (hi:i=(k:Int)) (h:U w v xs) :
  Calls Tryz.prog 108 #[v,.int .i64 i] w fun e w'=>e = .returned (.int .u64 (lb xs k:Nat))∧w=w':=by
 subst hi;exact Js w v xs k h
theorem jR (xs:List Nat) (k:Nat) (h:k<xs.length):val (xs.drop k)=lb xs k+4294967296*val (xs.drop (k+1)):=by
 rw [List.drop_eq_getElem_cons h]
 have:lb xs k=xs[k]:=by simp [lb,h]
 rw [this];rfl
theorem AJ {xs ys:List Nat} (hx:∀ x∈xs,x<4294967296) (hy:∀ x∈ys,x<4294967296) (p L:Nat) (h1:xs.length≤L) (h2:ys.length≤L) (hp:p<L)
  (ht:∀ j,p<j→j<L→lb xs j=lb ys j) (hlt:lb xs p<lb ys p):val xs<val ys:=by
 rw [← oG xs L h1,← oG ys L h2]
 have e:∀ (zs:List Nat) j,j<L→lb ((List.range L).map fun j=>lb zs j) j=lb zs j:=fun zs j hj=>by
  simp [lb,hj]
 refine pU (by simp) ?_ ?_ p (by simp;exact hp) ?_ ?_
 · intro x hx';obtain ⟨j,_,rfl⟩:=List.mem_map.1 hx';exact cK hx j
 · intro x hx';obtain ⟨j,_,rfl⟩:=List.mem_map.1 hx';exact cK hy j
 · intro j h3 h4;simp at h4;rw [e xs j h4,e ys j h4];exact ht j h3 h4
 · rw [e xs p hp,e ys p hp];exact hlt
theorem xS {xs ys:List Nat} (L:Nat) (h1:xs.length≤L) (h2:ys.length≤L) (ht:∀ j,j<L→lb xs j=lb ys j):val xs=val ys:=by
 rw [← oG xs L h1,← oG ys L h2]
 congr 1
 apply List.map_congr_left
 intro j hj
 exact ht j (by simpa using hj)
theorem nR (w:World) (v u:Value) (xs ys:List Nat) (h:U w v xs) (g:U w u ys) (hl:xs.length≤1000000000) (hl2:ys.length≤1000000000) :
  Calls Tryz.prog 79 #[v,u] w fun e w'=>e = .returned (.int .i64 (bZ (val xs:Nat) (val ys:Nat)))∧w=w':=by
 obtain ⟨A,c,rfl,⟨hc,hm⟩,hx,hr⟩:=id h
 obtain ⟨A2,c2,rfl,⟨hc2,hm2⟩,hx2,hr2⟩:=id g
 rcases Nat.lt_or_ge xs.length ys.length with hlen | hlen
 · have Yt : Hid (xs.length≤ys.length):=by rw [Hid];omega
   have HL2:Hid (ys.length≤ys.length):=by rw [Hid];omega
   go_enter Tryz.func79,Tryz.ntmps79
   go_wp2_with (fail)
   go_loop [5] (fun i=>∃ k:Nat,k≤ys.length∧i = .int .i64 ((k:Int)-1)∧Hid (∀ j,k≤j→j<ys.length→lb xs j=lb ys j)) (fun i=>(intOf i+1).toNat)
   case atStart=>exact ⟨ys.length,Nat.le_refl _,rfl,fun j h1 h2=>by omega⟩
   case round =>
    obtain ⟨k,hk,rfl,HE⟩:=hrel
    rcases Nat.eq_zero_or_pos k with rfl | h0
    · have HF:Hid (bZ (val xs:Nat) (val ys:Nat)=0):=by
       rw [Hid,xS (ys.length) Yt.out HL2.out (fun j hj=>HE.out j (Nat.zero_le _) hj)];exact qC _
      go_wp2
      go_ret
      exact ⟨by rw [HF.out];rfl,rfl⟩
    · rcases Nat.lt_trichotomy (lb xs (k-1)) (lb ys (k-1)) with hc1 | hc1 | hc1
      · have HF:Hid (bZ (val xs:Nat) (val ys:Nat) = -1):=kV (Int.ofNat_lt.2 (AJ hx hx2 (k-1) (ys.length) Yt.out HL2.out (by omega) (fun j h1 h2=>HE.out j (by omega) h2) hc1))
        have hd:decide (((lb xs (k-1):Nat):Int)<((lb ys (k-1):Nat):Int))=true:=by rw [decide_eq_true_iff];omega
        go_wp2_with (fail)
        refine (bJ _ _ xs _ (k-1) (by omega) h).mono ?_
        rintro e w' ⟨rfl,rfl⟩
        go_wp2_with (fail)
        refine (bJ _ _ ys _ (k-1) (by omega) g).mono ?_
        rintro e w' ⟨rfl,rfl⟩
        go_wp2_with (fail)
        go_ret
        exact ⟨by rw [HF.out];rfl,rfl⟩
      · have hd:decide (((lb xs (k-1):Nat):Int)<((lb ys (k-1):Nat):Int))=false:=by rw [decide_eq_false_iff_not];omega
        have hd2:decide (((lb ys (k-1):Nat):Int)<((lb xs (k-1):Nat):Int))=false:=by rw [decide_eq_false_iff_not];omega
        have HC:=Lib.hid hc1
        have hle1:¬ lb xs (k-1)<lb ys (k-1):=by omega
        have hle2:¬ lb ys (k-1)<lb xs (k-1):=by omega
        clear hc1
        go_wp2_with (fail)
        refine (bJ _ _ xs _ (k-1) (by omega) h).mono ?_
        rintro e w' ⟨rfl,rfl⟩
        go_wp2_with (fail)
        refine (bJ _ _ ys _ (k-1) (by omega) g).mono ?_
        rintro e w' ⟨rfl,rfl⟩
        go_wp2_with (fail)
        refine (bJ _ _ xs _ (k-1) (by omega) h).mono ?_
        rintro e w' ⟨rfl,rfl⟩
        go_wp2_with (fail)
        refine (bJ _ _ ys _ (k-1) (by omega) g).mono ?_
        rintro e w' ⟨rfl,rfl⟩
        go_wp2_with (fail)
        go_round
        case rel=>exact ⟨k-1,by omega,by go_num,fun j h1 h2=>by
         rcases Nat.lt_or_ge j k with h3 | h3
         · have ej:j=k-1:=by omega
           rw [ej]
           exact HC.out
         · exact HE.out j h3 h2⟩
        case measure=>simp [intOf];omega
      · have HF:Hid (bZ (val xs:Nat) (val ys:Nat)=1):=lZ (Int.ofNat_lt.2 (AJ hx2 hx (k-1) (ys.length) HL2.out Yt.out (by omega) (fun j h1 h2=>by have:=HE.out j (by omega) h2;exact this.symm) hc1))
        have hd:decide (((lb xs (k-1):Nat):Int)<((lb ys (k-1):Nat):Int))=false:=by rw [decide_eq_false_iff_not];omega
        have hd2:decide (((lb ys (k-1):Nat):Int)<((lb xs (k-1):Nat):Int))=true:=by rw [decide_eq_true_iff];omega
        go_wp2_with (fail)
        refine (bJ _ _ xs _ (k-1) (by omega) h).mono ?_
        rintro e w' ⟨rfl,rfl⟩
        go_wp2_with (fail)
        refine (bJ _ _ ys _ (k-1) (by omega) g).mono ?_
        rintro e w' ⟨rfl,rfl⟩
        go_wp2_with (fail)
        refine (bJ _ _ xs _ (k-1) (by omega) h).mono ?_
        rintro e w' ⟨rfl,rfl⟩
        go_wp2_with (fail)
        refine (bJ _ _ ys _ (k-1) (by omega) g).mono ?_
        rintro e w' ⟨rfl,rfl⟩
        go_wp2_with (fail)
        go_ret
        exact ⟨by rw [HF.out];rfl,rfl⟩
 · have Yt : Hid (xs.length≤xs.length):=by rw [Hid];omega
   have HL2:Hid (ys.length≤xs.length):=by rw [Hid];omega
   go_enter Tryz.func79,Tryz.ntmps79
   go_wp2_with (fail)
   go_loop [5] (fun i=>∃ k:Nat,k≤xs.length∧i = .int .i64 ((k:Int)-1)∧Hid (∀ j,k≤j→j<xs.length→lb xs j=lb ys j)) (fun i=>(intOf i+1).toNat)
   case atStart=>exact ⟨xs.length,Nat.le_refl _,rfl,fun j h1 h2=>by omega⟩
   case round =>
    obtain ⟨k,hk,rfl,HE⟩:=hrel
    rcases Nat.eq_zero_or_pos k with rfl | h0
    · have HF:Hid (bZ (val xs:Nat) (val ys:Nat)=0):=by
       rw [Hid,xS (xs.length) Yt.out HL2.out (fun j hj=>HE.out j (Nat.zero_le _) hj)];exact qC _
      go_wp2
      go_ret
      exact ⟨by rw [HF.out];rfl,rfl⟩
    · rcases Nat.lt_trichotomy (lb xs (k-1)) (lb ys (k-1)) with hc1 | hc1 | hc1
      · have HF:Hid (bZ (val xs:Nat) (val ys:Nat) = -1):=kV (Int.ofNat_lt.2 (AJ hx hx2 (k-1) (xs.length) Yt.out HL2.out (by omega) (fun j h1 h2=>HE.out j (by omega) h2) hc1))
        have hd:decide (((lb xs (k-1):Nat):Int)<((lb ys (k-1):Nat):Int))=true:=by rw [decide_eq_true_iff];omega
        go_wp2_with (fail)
        refine (bJ _ _ xs _ (k-1) (by omega) h).mono ?_
        rintro e w' ⟨rfl,rfl⟩
        go_wp2_with (fail)
        refine (bJ _ _ ys _ (k-1) (by omega) g).mono ?_
        rintro e w' ⟨rfl,rfl⟩
        go_wp2_with (fail)
        go_ret
        exact ⟨by rw [HF.out];rfl,rfl⟩
      · have hd:decide (((lb xs (k-1):Nat):Int)<((lb ys (k-1):Nat):Int))=false:=by rw [decide_eq_false_iff_not];omega
        have hd2:decide (((lb ys (k-1):Nat):Int)<((lb xs (k-1):Nat):Int))=false:=by rw [decide_eq_false_iff_not];omega
        have HC:=Lib.hid hc1
        have hle1:¬ lb xs (k-1)<lb ys (k-1):=by omega
        have hle2:¬ lb ys (k-1)<lb xs (k-1):=by omega
        clear hc1
        go_wp2_with (fail)
        refine (bJ _ _ xs _ (k-1) (by omega) h).mono ?_
        rintro e w' ⟨rfl,rfl⟩
        go_wp2_with (fail)
        refine (bJ _ _ ys _ (k-1) (by omega) g).mono ?_
        rintro e w' ⟨rfl,rfl⟩
        go_wp2_with (fail)
        refine (bJ _ _ xs _ (k-1) (by omega) h).mono ?_
        rintro e w' ⟨rfl,rfl⟩
        go_wp2_with (fail)
        refine (bJ _ _ ys _ (k-1) (by omega) g).mono ?_
        rintro e w' ⟨rfl,rfl⟩
        go_wp2_with (fail)
        go_round
        case rel=>exact ⟨k-1,by omega,by go_num,fun j h1 h2=>by
         rcases Nat.lt_or_ge j k with h3 | h3
         · have ej:j=k-1:=by omega
           rw [ej]
           exact HC.out
         · exact HE.out j h3 h2⟩
        case measure=>simp [intOf];omega
      · have HF:Hid (bZ (val xs:Nat) (val ys:Nat)=1):=lZ (Int.ofNat_lt.2 (AJ hx2 hx (k-1) (xs.length) HL2.out Yt.out (by omega) (fun j h1 h2=>by have:=HE.out j (by omega) h2;exact this.symm) hc1))
        have hd:decide (((lb xs (k-1):Nat):Int)<((lb ys (k-1):Nat):Int))=false:=by rw [decide_eq_false_iff_not];omega
        have hd2:decide (((lb ys (k-1):Nat):Int)<((lb xs (k-1):Nat):Int))=true:=by rw [decide_eq_true_iff];omega
        go_wp2_with (fail)
        refine (bJ _ _ xs _ (k-1) (by omega) h).mono ?_
        rintro e w' ⟨rfl,rfl⟩
        go_wp2_with (fail)
        refine (bJ _ _ ys _ (k-1) (by omega) g).mono ?_
        rintro e w' ⟨rfl,rfl⟩
        go_wp2_with (fail)
        refine (bJ _ _ xs _ (k-1) (by omega) h).mono ?_
        rintro e w' ⟨rfl,rfl⟩
        go_wp2_with (fail)
        refine (bJ _ _ ys _ (k-1) (by omega) g).mono ?_
        rintro e w' ⟨rfl,rfl⟩
        go_wp2_with (fail)
        go_ret
        exact ⟨by rw [HF.out];rfl,rfl⟩
end Go.Proofs.YtdpmbgomcjnohaaGreatDoor
/- Quotient and rest by a limb. -/
namespace Go.Proofs.YtdpmbgomcjnohaaGreatDoor
open Go.RowKit
set_option linter.unusedVariables false
set_option maxHeartbeats 400000
theorem Nl (x y z:Nat) (hx:x<4294967296) (hy:y<4294967296) (hz:4294967296*y+x=z):bits .or .u64 ((4294967296*y:Nat):Int) (x:Int)=(z:Int):=by
 rw [u64_or_nat _ _ (by omega) (by omega),nat_join 32 _ x (Nat.mul_mod_right _ _) hx,hz]
theorem wH {k:Nat} (h:k<4294967296):IntKind.u32.wrap (k:Int)=(k:Int):=by rw [IntKind.wrap_u32];omega
theorem wI {k:Nat} (h:k<4294967296):(k:Int)%4294967296=(k:Int):=by omega
structure Yw (xs:List Nat) (m k:Nat) (o:List Nat) (r:Nat):Prop where
 len:o.length=xs.length
 lt:∀ x∈o,x<4294967296
 val:val (xs.drop k)=val (o.drop k)*m+r
 small:r<m
theorem Yw.step {xs:List Nat} {m k:Nat} {o:List Nat} {r:Nat} (h:Yw xs m (k+1) o r) (hk:k<xs.length) (x z q s:Nat) (hx:lb xs k=x) (hz:4294967296*r+x=z) (hxb:x<4294967296) (hq:z/m=q) (hs:z%m=s):q<4294967296∧Yw xs m k (o.set k q) s:=by
 have hm:=h.small
 have LM:q<4294967296:=by
  rw [← hq]
  exact Nat.div_lt_of_lt_mul (by have:=Nat.mul_le_mul_right 4294967296 (show r+1≤m from hm);omega)
 refine ⟨LM,by simp [h.len],dY h.lt LM,?_,by rw [← hs];exact Nat.mod_lt _ (by omega)⟩
 have h1:=jR xs k hk
 have h2:=jR (o.set k q) k (by simp [h.len];exact hk)
 rw [kP _ (by rw [h.len];exact hk),List.drop_set_of_lt (show k<k+1 by omega)] at h2
 have h3:q*m+s=z:=by rw [← hq,← hs,Nat.mul_comm];exact Nat.div_add_mod _ _
 rw [h1,h2,hx,h.val,Nat.add_mul,Nat.mul_add,Nat.mul_assoc]
 omega
set_option maxRecDepth 100000 in
set_option maxHeartbeats 4000000 in
theorem GH (w:World) (v:Value) (a m:Nat) (h:Un w v a) (hl:(limbs a).length≤1000000) (hm:m<4294967296) (h0:m≠0) (q r:Nat) (hq:a/m=q) (hr:a%m=r) :
  Calls Tryz.prog 179 #[v,.int .u32 (m:Nat)] w fun e w'=>(∃ u,e = .returned (.tuple #[u,.int .u32 (r:Nat),.int .i64 0])∧Un w' u q)∧Ext w w':=by
 have hva:=aH a
 have h':U w v (limbs a):=h
 generalize limbs a=xs at *
 clear h
 obtain ⟨A,c,rfl,⟨hc,hmx⟩,hx,hr0⟩:=h'
 obtain ⟨i0,hi,hz0,hz1,hz2⟩:=info_parts qB
 obtain ⟨L,hL⟩:∃ L,xs.length=L:=⟨_,rfl⟩
 have HL:=Lib.hid hL
 rw [hL] at hc hmx hr0 hl ⊢
 have SS:Hid (∀ o s,Yw xs m 0 o s→val o=q∧s=r):=fun o s h=>by
  have h1:=h.val
  rw [List.drop_zero,List.drop_zero,hva] at h1
  obtain ⟨a1,a2⟩:=EE m a (val o) s h1.symm h.small
  exact ⟨by rw [← hq,a1],by rw [← hr,a2]⟩
 have YT:Hid (Yw xs m L (List.replicate L 0) 0):=⟨by simp [hL],by simp,by rw [List.drop_eq_nil_of_le (by omega),List.drop_eq_nil_of_le (by simp)];simp [val],by omega⟩
 obtain ⟨B,hB⟩:∃ B,w.heap.size=B:=⟨_,rfl⟩
 have hmz:((m:Int)==0)=false:=by rw [beq_eq_false_iff_ne];omega
 have ahg:¬ ((m:Int)=0):=by omega
 have hmw:=jW (show m<18446744073709551616 by omega)
 have ahh:=kU (show m<18446744073709551616 by omega)
 have HM:=Lib.hid hm
 have hrb:r<4294967296:=by rw [← hr];exact Nat.lt_trans (Nat.mod_lt _ (by omega)) hm
 have HRB:=Lib.hid hrb
 clear hL hq hr hva hm hrb
 go_enter Tryz.func179,Tryz.ntmps179
 go_wp2_with (at_make;refine wpList_make_full _ rfl _ _ 22 rfl w.heap.size 67 i0 (.int .u32 0) 1 Tryz.underlying22 hi hz0 hz1 _ _ _ _ L rfl rfl (by omega) (by omega) (by rw [hz2];omega) (by unfold maxLen;omega) (Nat.le_refl _) ?_;intro w1 hown hgrow)
 have ho0:Own w1 w.heap.size (.slice (some ⟨w.heap.size,0,none⟩) L L) (List.replicate L 0):=by
  have:=Own.zeros hown
  rwa [List.length_replicate] at this
 have hE0:Ext w w1:=(Ext.refl w).grown hgrow (Nat.le_refl _) (fun _ h=>by cases h)
 rw [hB] at ho0
 clear hown hgrow hi hz0 hz1 hz2 i0
 go_wp2
 go_loopw [9,8] (fun t s wr=>∃ (k:Nat) (z:Int) (o:List Nat) (rs:Nat),k≤L∧t = .int .i64 z∧z=(k:Int)-1∧s = .int .u64 (rs:Nat)∧Hid (Yw xs m k o rs)∧Own wr B (.slice (some ⟨B,0,none⟩) L L) o∧Ext w wr) (fun t _ _=>(intOf t+1).toNat)
 case atStart=>exact ⟨L,_,_,0,Nat.le_refl _,rfl,rfl,rfl,YT,ho0,hE0⟩
 case round =>
  clear ho0 hE0 YT
  obtain ⟨k,z,o,rs,hk,rfl,hz,rfl,HO,hown,hE⟩:=hrel
  cases k with
  | zero =>
   obtain rfl:z = -1:=by omega
   obtain ⟨d1,rfl⟩:=SS.out o rs HO.out
   have hol:=HO.out.len
   have hu:=hown.xX HO.out.lt (by rw [hol,HL.out];omega)
   have YU:=Lib.hid (EI _ _ _ hu q d1)
   have hw1:=wH HRB.out
   have hw2:=wI HRB.out
   clear d1 hown HO hol hu SS hz
   go_wp2_with (fail)
   refine YU.out.mono ?_
   rintro e w2 ⟨u,rfl,hu,hB2⟩
   have HF:Hid (∃ u',Ending.returned (.tuple #[u,.int .u32 (rs:Nat),.int .i64 0]) = .returned (.tuple #[u',.int .u32 (rs:Nat),.int .i64 0])∧Un w2 u' q):=⟨_,rfl,hu⟩
   replace hE:=hE.below hB2
   clear hu hB2 YU
   go_wp2
   go_ret3
   exact ⟨HF.out,hE⟩
  | succ j =>
   obtain rfl:z=(j:Int):=by omega
   obtain ⟨ad,rfl,hb,hcell⟩:=hr0 (by omega)
   have hc0:=(hE.cell (p:=ad.add j) (by rw [aF];exact hb)).trans (hcell j (by omega))
   have hxb:=cK hx j
   obtain ⟨x,hx0⟩:∃ x,lb xs j=x:=⟨_,rfl⟩
   rw [hx0] at hc0 hxb
   have hrs:=HO.out.small
   have hm2:=HM.out
   obtain ⟨y,hy⟩:∃ y,4294967296*rs+x=y:=⟨_,rfl⟩
   obtain ⟨p,hp⟩:∃ p,y/m=p:=⟨_,rfl⟩
   obtain ⟨s,hs⟩:∃ s,y%m=s:=⟨_,rfl⟩
   obtain ⟨hpb,hst⟩:=HO.out.step (by rw [HL.out];omega) x y p s hx0 hy hxb hp hs
   have HST:=Lib.hid hst
   have o1:=Nl x rs y hxb (by omega) hy
   have o2:(rs:Int)*4294967296=((4294967296*rs:Nat):Int):=by omega
   have o3:=jW (show 4294967296*rs<18446744073709551616 by omega)
   have o4:=kU (show 4294967296*rs<18446744073709551616 by omega)
   have o5:=jW (show x<18446744073709551616 by omega)
   have o6:=kU (show x<18446744073709551616 by omega)
   have o7:(y:Int).tdiv (m:Int)=(p:Int):=by rw [Int.tdiv_eq_ediv_of_nonneg (Int.natCast_nonneg _),← hp,Int.natCast_ediv]
   have o8:(y:Int).tmod (m:Int)=(s:Int):=by rw [Int.tmod_eq_emod_of_nonneg (Int.natCast_nonneg _),← hs,Int.natCast_emod]
   have o7':(y:Int)/(m:Int)=(p:Int):=by rw [← hp,Int.natCast_ediv]
   have o8':(y:Int)%(m:Int)=(s:Int):=by rw [← hs,Int.natCast_emod]
   have o9:=wH hpb
   have o10:=wI hpb
   have o11:=jW (show p<18446744073709551616 by omega)
   have o12:=kU (show p<18446744073709551616 by omega)
   have hsb:s<18446744073709551616:=by rw [← hs];exact Nat.lt_trans (Nat.mod_lt _ (by omega)) (by omega)
   have o13:=jW hsb
   have o14:=kU hsb
   have hol:=HO.out.len
   have hjl:j<o.length:=by rw [hol,HL.out];omega
   have hf:=hown.frozen' j
   have hcz:=hown.rd.2 j hjl
   have hown2:=hown.set' j p
   have hE2:=hE.setCell (p:=⟨B,j,none⟩) (by rw [hB];exact Nat.le_refl _) (.int .u32 (p:Nat))
   have hbn:(ad.add j).block≠B:=by rw [aF];omega
   have hj2:j<L:=by omega
   generalize 4294967296*rs=y2 at *
   clear hx0 hxb hrs hm2 hp hs hpb hst hy hsb hown HO hE hol hjl hz
   go_wp2
   go_roundw
   case rel=>exact ⟨j,_,_,s,by omega,rfl,rfl,rfl,HST,hown2,hE2⟩
   case measure=>simp [intOf]
end Go.Proofs.YtdpmbgomcjnohaaGreatDoor
