/- A word of a quotient, and what is left. -/
import Derived.Test.YtgcieamfidoaoaaGreatDoorEaq
set_option linter.all false
set_option maxHeartbeats 8000000
namespace Go.Proofs.YtgcieamfidoaoaaGreatDoor
open Go.RowKit
theorem PN (g off j:Nat):(⟨g,off,none⟩:Addr).add j=⟨g,off+j,none⟩:=by
 unfold Addr.add
 by_cases h:j=0<;>simp [h]
theorem Ow.part {w:World} {base g n c:Nat} {pre s post:List Nat} (h:Ow w base (.slice (some ⟨g,0,none⟩) n c) (Sg pre s post)) {off m zc:Nat} (hpre:pre.length=off) (hs:s.length=m) (hx:∀ x∈s,x<18446744073709551616) (hn:n≤1000000) (hzc:m≤zc) (q:Nat) (hq:g≠q) :
  V q w (.slice (some ⟨g,off,none⟩) m zc) s:=by
 obtain ⟨e,h1,h2⟩:=h.caps
 rw [JV] at e
 refine ⟨_,zc,by rw [hs],⟨by omega,by omega⟩,hx,fun h0=>⟨_,rfl,h.block.2,hq,fun j hj=>?_⟩⟩
 rw [PN,h.cell (j:=off+j) (by omega),He _ _ _ _ _ hpre hj]
theorem zM (n T:Nat) (s0 s:List Nat) (bo t:Nat) (h:Wn (n+1) (bU s0) T n s0 s bo) (ht:lb s0 n=t) (hb:t<bo):bU s0<T:=by
 have h1:=qP s n h.len h.lt
 rw [h.out n (Nat.le_refl _),ht] at h1
 have h2:=h.val
 have h3:BB^n*(t+1)≤BB^n*bo:=Nat.mul_le_mul_left _ hb
 omega
theorem TQ (V q A S:Nat) (h:S+V*q=A) (ht:A<(q+1)*V):q*V+S=A∧S<V:=by
 rw [Nat.mul_comm V q] at h
 rw [Nat.add_mul,Nat.one_mul] at ht
 omega
theorem TS (V q1 A S:Nat) (h:S+q1*V=A) (ht:A<V*(q1+1)):q1*V+S=A∧S<V:=by
 rw [Nat.mul_add,Nat.mul_one,Nat.mul_comm V q1] at ht
 omega
set_option maxRecDepth 100000 in
theorem Hg (w:World) (g base N c off zc:Nat) (pre s post vs:List Nat) (vv:Value) (hown:Ow w base (.slice (some ⟨g,0,none⟩) N c) (Sg pre s post)) (hx:∀ x∈s,x<18446744073709551616) (hpre:pre.length=off)
  (m k:Nat) (hk:m=k+1) (hs:s.length=m+1) (hvs:vs.length=m) (hzc:m+1≤zc) (hN:N≤1000000) (hv:V g w vv vs) (top:9223372036854775808≤lb vs k) (hlt:bU s<BB*bU vs) :
  Calls Tryz.prog 225 #[.slice (some ⟨g,off,none⟩) (m+1:Nat) zc,vv] w fun e w'=>(∃ q s',e = .returned (.int .u64 (q:Nat))∧q<18446744073709551616∧s'.length=m+1∧(∀ x∈s',x<18446744073709551616)∧q*bU vs+bU s'=bU s∧bU s'<bU vs ∧
   Ow w' base (.slice (some ⟨g,0,none⟩) N c) (Sg pre s' post))∧But g w w':=by
 obtain ⟨hcap,hcap1,hcap2⟩:=hown.caps
 rw [JV,hpre,hs] at hcap
 have hu:V (g+1) w (.slice (some ⟨g,off,none⟩) (m+1) zc) s:=hown.part hpre hs hx hN hzc (g+1) (by omega)
 have hGu:=Lib.hid (Hf w (g+1) g _ vv s vs hu hv m k hk hs hvs (by omega) top hlt)
 have hgb:=hown.block.2
 have EW:=Lib.hid hpre
 have HS:=Lib.hid hs
 have hxv:=hv.lim
 have HXV:Hid (∀ j,lb vs j<18446744073709551616):=fun j=>fQ (by decide) hxv j
 have ZU:=Lib.hid (fun j (h:j<m)=>ji vs j (by omega))
 have HT2:Hid (vs.take m=vs):=by rw [Hid,← hvs];exact List.take_length
 have HD0:Hid (∀ q,Wn (m+1) (bU s) (bU (vs.take 0)*q) 0 s s 0):=fun q=>⟨hs,hx,by decide,by simp [bU],fun m _=>rfl⟩
 have HT0:Hid (lb s m<18446744073709551616):=fQ (by decide) hx m
 obtain ⟨t,ht⟩:∃ t,lb s m=t:=⟨_,rfl⟩
 have HT:=Lib.hid ht
 have hoff:off+m<N:=by omega
 have hm1:m≤1000000:=by omega
 obtain ⟨av,cv,rfl,hcv,hbv,hgv,yU⟩:=hv.opened (n:=m) hvs (by omega)
 have ZV:((m+1:Nat):Int)=(m:Int)+1:=by omega
 have e3:(m:Int)<(m:Int)+1:=by omega
 have e4:m≤zc:=by omega
 have e5:(m:Int)≤(zc:Int):=by omega
 clear hu hv hx hpre hs hvs top hlt hcap hcap1 hcap2 ht hxv hk
 go_enter Tryz.func225,Tryz.ntmps225
 go_wp2_with (fail)
 refine hGu.out.mono ?_
 rintro e w1 ⟨⟨q,rfl,hq,hq1,hq2⟩,hB⟩
 have hB0:But g w w1:=(But.refl g w).ext hB
 replace hown:=hown.ext hB
 have HQ1:=Lib.hid hq1
 have HQ2:=Lib.hid hq2
 clear hB hq1 hq2 hGu
 go_wp2
 go_loopw [29,7] (fun t7 s7 wr=>∃ (i:Nat) (s':List Nat) (bo:Nat),i≤m∧t7 = .int .i64 (i:Nat)∧s7 = .int .u64 (bo:Nat)∧Hid (Wn (m+1) (bU s) (bU (vs.take i)*q) i s s' bo)∧Ow wr base (.slice (some ⟨g,0,none⟩) N c) (Sg pre s' post)∧But g w wr) (fun t7 _ _=>m-(intOf t7).toNat)
 case atStart=>exact ⟨0,s,0,Nat.zero_le _,rfl,rfl,HD0.out q,hown,hB0⟩
 case round =>
  clear hown hB0
  obtain ⟨i,s',bo,hi,rfl,rfl,HO,hown,hB⟩:=hrel
  by_cases hlt:i<m
  · have hc0:=(hB.cell (p:=av.add i) (by rw [aL];exact hbv) (by rw [aL];exact hgv)).trans (yU i hlt)
    have hy:=HXV.out i
    have htk:=ZU.out i hlt
    have hl:=HO.out.len
    have hcz:=hown.cell (j:=off+i) (by omega)
    rw [He _ _ _ _ _ EW.out (by omega)] at hcz
    have hf:=hown.frozen (off+i)
    have hx1:lb s' i<18446744073709551616:=fQ (by decide) HO.out.lt _
    have hcy:=HO.out.b1
    obtain ⟨x,BG⟩:∃ x,lb vs i=x:=⟨_,rfl⟩
    rw [BG] at hc0 hy htk
    obtain ⟨z,hzz⟩:∃ z,lb s' i=z:=⟨_,rfl⟩
    rw [hzz] at hcz hx1
    obtain ⟨p,hp⟩:∃ p,x*q=p:=⟨_,rfl⟩
    have hp1:p≤340282366920938463426481119284349108225:=by rw [← hp];exact XN hy hq
    obtain ⟨ph,TP⟩:∃ ph,p/18446744073709551616=ph:=⟨_,rfl⟩
    obtain ⟨pl,hpl⟩:∃ pl,p%18446744073709551616=pl:=⟨_,rfl⟩
    obtain ⟨s1,hs1⟩:∃ s1,(z+18446744073709551616-pl-0)%18446744073709551616=s1:=⟨_,rfl⟩
    obtain ⟨c1,hc1⟩:∃ c1,(if z<pl+0 then 1 else 0)=c1:=⟨_,rfl⟩
    obtain ⟨s2,hs2⟩:∃ s2,(s1+18446744073709551616-bo-0)%18446744073709551616=s2:=⟨_,rfl⟩
    obtain ⟨c2,hc2⟩:∃ c2,(if s1<bo+0 then 1 else 0)=c2:=⟨_,rfl⟩
    have XO:pl<18446744073709551616:=by rw [← hpl];exact Nat.mod_lt _ (by decide)
    have XP:s1<18446744073709551616:=by rw [← hs1];exact Nat.mod_lt _ (by decide)
    have XQ:s2<18446744073709551616:=by rw [← hs2];exact Nat.mod_lt _ (by decide)
    have q1:s1+pl=z+18446744073709551616*c1:=sub_one z pl s1 c1 hx1 XO hs1 hc1
    have q2:s2+bo=s1+18446744073709551616*c2:=sub_one s1 bo s2 c2 XP hcy hs2 hc2
    obtain ⟨aal,NC,TT⟩:=TE x q bo z s1 c1 s2 c2 ph pl (ph+c1+c2) hy hq hcy hx1 (by rw [hp,← TP,← hpl];exact (Nat.div_add_mod _ _).symm) XO q1 XP q2 XQ rfl
    have hst:=HO.out.step (by omega) p s2 (ph+c1+c2) (by rw [hzz,← hp];exact aal) XQ NC
    rw [← hp,← Nat.mul_assoc,← Nat.add_mul,← htk] at hst
    have HST:=Lib.hid hst
    have hown2:=hown.qO (off+i) s2
    rw [Bw _ _ _ _ _ _ EW.out (by omega)] at hown2
    have hB2:=hB.setCell (off+i) (.int .u64 (s2:Nat))
    have hMul:Hid (∀ W,Calls Tryz.prog 191 #[.int .u64 (x:Nat),.int .u64 (q:Nat)] W fun e w'=>e = .returned (.tuple #[.int .u64 (ph:Nat),.int .u64 (pl:Nat)])∧w'=W):=by
     intro W
     have:=sF x q hy hq W
     rw [hp,TP,hpl] at this
     exact this
    have aam:∀ w,(callFunc 227 #[.int .u64 (z:Nat),.int .u64 (pl:Nat),.int .u64 0]).run Tryz.prog w = .ok (.value (.tuple #[.int .u64 (s1:Nat),.int .u64 (c1:Nat)])) w:=Hl z pl 0 s1 c1 (Nat.zero_le _) hs1 hc1
    have aan:∀ w,(callFunc 227 #[.int .u64 (s1:Nat),.int .u64 (bo:Nat),.int .u64 0]).run Tryz.prog w = .ok (.value (.tuple #[.int .u64 (s2:Nat),.int .u64 (c2:Nat)])) w:=Hl s1 bo 0 s2 c2 (Nat.zero_le _) hs2 hc2
    obtain ⟨d1,hd1⟩:∃ d1,ph+c1=d1:=⟨_,rfl⟩
    obtain ⟨d,hd⟩:∃ d,d1+c2=d:=⟨_,rfl⟩
    rw [hd1] at TT HST NC
    rw [hd] at HST NC
    have f1:(ph:Int)+(c1:Int)=(d1:Int):=by rw [← hd1];rfl
    have f2:(d1:Int)+(c2:Int)=(d:Int):=by rw [← hd];rfl
    have f3:=kU TT
    have f4:=kU NC
    have f5:=lU TT
    have f6:=lU NC
    clear hst htk BG hzz hp TP hpl hs1 hc1 hs2 hc2 hown hB HO hd hd1 hp1 aal NC TT q1 q2 XO XP XQ hy hx1 hcy hl
    go_wp2_with (fail)
    refine (hMul.out _).mono ?_
    rintro e w' ⟨rfl,rfl⟩
    clear hMul
    go_wp2
    go_roundw
    case rel=>exact ⟨i+1,_,d,by omega,by go_num,rfl,HST,hown2,hB2⟩
    case measure=>simp [intOf];omega
  · obtain rfl:i=m:=by omega
    rw [HT2.out] at HO
    have hl:=HO.out.len
    have hcz:=hown.cell (j:=off+i) (by omega)
    rw [He _ _ _ _ _ EW.out (by omega),HO.out.out _ (Nat.le_refl _),HT.out] at hcz
    have hf:=hown.frozen (off+i)
    have PO:=HO.out.b1
    have htb:=HT0.out
    rw [HT.out] at htb
    by_cases hab:t<bo
    · obtain ⟨x,hx⟩:∃ x,t+18446744073709551616-bo=x:=⟨_,rfl⟩
      have hxb:x<18446744073709551616:=by omega
      obtain ⟨r1,r2⟩:=PG i (bU vs*q) s s' bo t x HO.out HT.out (by unfold BB;omega) hab
      have r5:=zM i (bU vs*q) s s' bo t HO.out HT.out hab
      have hq0:1≤q:=by
       rcases Nat.eq_zero_or_pos q with h | h
       · rw [h,Nat.mul_zero] at r5;omega
       · exact h
      obtain ⟨qq,hqq⟩:∃ qq,q-1=qq:=⟨_,rfl⟩
      have hqe:q=qq+1:=by omega
      have ND:qq<18446744073709551616:=by omega
      have aao:Hid (∀ s2 c,TL (i+1) 0 (bU (s'.set i x)+bU vs) i s2 c→lb s2 i+c=BB∧qq*bU vs+bU (s2.set i 0)=bU s∧bU (s2.set i 0)<bU vs):=fun s2 c h=>by
       rw [hqe] at r1 r5
       obtain ⟨a,b⟩:=PI i (bU vs*(qq+1)) (bU vs) qq (bU s) (bU (s'.set i x)) s2 c r1 (by rw [Nat.mul_add,Nat.mul_one,Nat.mul_comm qq]) (by have:=HQ2.out;rw [hqe,Nat.add_mul,Nat.one_mul] at this;omega) h
       exact ⟨a,TS (bU vs) qq (bU s) _ b r5⟩
      have hown2:=hown.qO (off+i) x
      rw [Bw _ _ _ _ _ _ EW.out (by omega)] at hown2
      have hB2:=hB.setCell (off+i) (.int .u64 (x:Nat))
      have HA0:Hid (TL (i+1) 0 (bU (s'.set i x)+bU (vs.take 0)) 0 (s'.set i x) 0):=⟨by rw [List.length_set];exact hl,r2,Nat.zero_le _,by simp [bU]⟩
      have f1:((t:Int)-(bo:Int))%18446744073709551616=(x:Int):=by omega
      have f2:IntKind.u64.wrap ((t:Int)-(bo:Int))=(x:Int):=by rw [IntKind.wrap_u64];exact f1
      have f3:=kU hxb
      have g1:(q:Int)-1=(qq:Int):=by omega
      have g2:=kU ND
      have g3:=lU ND
      clear r1 r2 r5 hq0 hqe hown hB HO hl PO htb hx hxb HD0
      go_wp2
      generalize hWW:wr.setCell ⟨g,off+i,none⟩ (.int .u64 (x:Nat))=w2 at *
      clear hWW
      go_loopw [84,16] (fun t7 s7 wx=>∃ (j:Nat) (s2:List Nat) (cy:Nat),j≤i∧t7 = .int .i64 (j:Nat)∧s7 = .int .u64 (cy:Nat)∧Hid (TL (i+1) 0 (bU (s'.set i x)+bU (vs.take j)) j s2 cy)∧Ow wx base (.slice (some ⟨g,0,none⟩) N c) (Sg pre s2 post)∧But g w wx) (fun t7 _ _=>i-(intOf t7).toNat)
      case atStart=>exact ⟨0,_,0,Nat.zero_le _,rfl,rfl,HA0,hown2,hB2⟩
      case round =>
       clear hown2 hB2 HA0
       obtain ⟨j,s2,cy,hj,rfl,rfl,HO,hown,hB⟩:=hrel
       have hl:=HO.out.len
       have hcy:=HO.out.Bz
       by_cases hlt:j<i
       · have hc0:=(hB.cell (p:=av.add j) (by rw [aL];exact hbv) (by rw [aL];exact hgv)).trans (yU j hlt)
         have hy:=HXV.out j
         have htk:=ZU.out j hlt
         have hcz:=hown.cell (j:=off+j) (by omega)
         rw [He _ _ _ _ _ EW.out (by omega)] at hcz
         have hf:=hown.frozen (off+j)
         have hx1:lb s2 j<18446744073709551616:=fQ (by decide) HO.out.lt _
         obtain ⟨y,yL⟩:∃ y,lb vs j=y:=⟨_,rfl⟩
         rw [yL] at hc0 hy htk
         obtain ⟨z,hzz⟩:∃ z,lb s2 j=z:=⟨_,rfl⟩
         obtain ⟨s3,hs3⟩:∃ s3,(z+y+cy)%18446744073709551616=s3:=⟨_,rfl⟩
         obtain ⟨d,hd⟩:∃ d,(z+y+cy)/18446744073709551616=d:=⟨_,rfl⟩
         have hst:=HO.out.step (by omega) y s3 d hy (by rw [Nat.zero_add,hzz];exact hs3) (by rw [Nat.zero_add,hzz];exact hd)
         rw [Nat.zero_add,Nat.add_assoc,← htk] at hst
         have HST:=Lib.hid hst
         rw [hzz] at hcz hx1
         have hown2:=hown.qO (off+j) s3
         rw [Bw _ _ _ _ _ _ EW.out (by omega)] at hown2
         have hB2:=hB.setCell (off+j) (.int .u64 (s3:Nat))
         have hadd:=BH z y cy s3 d hcy hs3 hd
         clear hst htk yL hs3 hd hzz hown hB HO hy hx1 hcy hl
         go_wp2
         go_roundw
         case rel=>exact ⟨j+1,_,d,by omega,by go_num,rfl,HST,hown2,hB2⟩
         case measure=>simp [intOf];omega
       · obtain rfl:j=i:=by omega
         rw [HT2.out] at HO
         obtain ⟨a1,a2,a3⟩:=aao.out s2 cy HO.out
         have hcz:=hown.cell (j:=off+j) (by omega)
         rw [He _ _ _ _ _ EW.out (by omega)] at hcz
         have hf:=hown.frozen (off+j)
         obtain ⟨z,hzz⟩:∃ z,lb s2 j=z:=⟨_,rfl⟩
         rw [hzz] at hcz a1
         have f1:((z:Int)+(cy:Int))%18446744073709551616=0:=by unfold BB at a1;omega
         have f2:IntKind.u64.wrap ((z:Int)+(cy:Int))=0:=by rw [IntKind.wrap_u64];exact f1
         have hown2:=hown.qO (off+j) 0
         rw [Bw _ _ _ _ _ _ EW.out (by omega)] at hown2
         have hB2:=hB.setCell (off+j) (.int .u64 (0:Nat))
         have Tu:Hid (∃ q' s3,Ending.returned (.int .u64 (qq:Nat)) = .returned (.int .u64 (q':Nat))∧q'<18446744073709551616∧s3.length=j+1∧(∀ x∈s3,x<18446744073709551616)∧q'*bU vs+bU s3=bU s∧bU s3<bU vs ∧
          Ow (wr.setCell ⟨g,off+j,none⟩ (.int .u64 0)) base (.slice (some ⟨g,0,none⟩) N c) (Sg pre s3 post)):=⟨qq,_,rfl,ND,by rw [List.length_set];exact hl,iQ HO.out.lt (by decide),a2,a3,hown2⟩
         have hE:Hid (But g w (wr.setCell ⟨g,off+j,none⟩ (.int .u64 0))):=hB2
         clear a1 a2 a3 hown2 hown hB hB2 HO hl hcy hzz hq ND aao
         go_wp2
         go_ret
         exact ⟨Tu.out,hE.out⟩
    · obtain ⟨x,hx⟩:∃ x,t-bo=x:=⟨_,rfl⟩
      have hxb:x<18446744073709551616:=by omega
      obtain ⟨r1,r2⟩:=XI i (bU vs*q) s s' bo t x HO.out HT.out (by omega)
      obtain ⟨r3,r4⟩:=TQ (bU vs) q (bU s) _ r1 HQ1.out
      have hown2:=hown.qO (off+i) x
      rw [Bw _ _ _ _ _ _ EW.out (by omega)] at hown2
      have hB2:=hB.setCell (off+i) (.int .u64 (x:Nat))
      have f1:(t:Int)-(bo:Int)=(x:Int):=by omega
      have f2:=kU hxb
      have f3:=lU hxb
      have Tu:Hid (∃ q' s2,Ending.returned (.int .u64 (q:Nat)) = .returned (.int .u64 (q':Nat))∧q'<18446744073709551616∧s2.length=i+1∧(∀ x∈s2,x<18446744073709551616)∧q'*bU vs+bU s2=bU s∧bU s2<bU vs ∧
       Ow (wr.setCell ⟨g,off+i,none⟩ (.int .u64 (x:Nat))) base (.slice (some ⟨g,0,none⟩) N c) (Sg pre s2 post)):=⟨q,_,rfl,hq,by rw [List.length_set];exact hl,r2,r3,r4,hown2⟩
      have hE:Hid (But g w (wr.setCell ⟨g,off+i,none⟩ (.int .u64 (x:Nat)))):=hB2
      clear r1 r2 r3 r4 hown2 hown hB hB2 HO hl PO htb hx hxb hq
      go_wp2
      go_ret
      exact ⟨Tu.out,hE.out⟩
end Go.Proofs.YtgcieamfidoaoaaGreatDoor
/- Differences; limbs in words of 64 bits and back. -/
namespace Go.Proofs.YtgcieamfidoaoaaGreatDoor
open Go.RowKit
set_option maxRecDepth 100000 in
theorem zN (w:World) (v:Value) (xs:List Nat) (h:U w v xs) (hl:xs.length≤100000) (n:Nat) (hn:(xs.length+1)/2≤n) (hn2:n≤100000) :
  Calls Tryz.prog 224 #[v,.int .i64 (n:Nat)] w fun e w'=>e = .returned (.slice (some ⟨w.heap.size,0,none⟩) n n)∧(∃ o,Ow w' w.heap.size (.slice (some ⟨w.heap.size,0,none⟩) n n) o∧bU o=val xs∧(∀ x∈o,x<18446744073709551616)∧o.length=n)∧Ext w w':=by
 obtain ⟨A,c,rfl,⟨hc,hmx⟩,hx,hr⟩:=h
 obtain ⟨i0,hi,hz0,hz1,hz2⟩:=info_parts EX
 obtain ⟨L,hL⟩:∃ L,xs.length=L:=⟨_,rfl⟩
 rw [hL] at hc hmx hr hl hn ⊢
 have Tv:Hid (∀ o,LP xs n L o→bU o=val xs∧∀ x∈o,x<18446744073709551616):=fun o h=>h.done hL hn hx
 obtain ⟨B,hB⟩:∃ B,w.heap.size=B:=⟨_,rfl⟩
 rw [hB]
 have uF:Hid (LP xs n 0 (List.replicate n 0)):=LP.start xs n
 clear hL
 go_enter Tryz.func224,Tryz.ntmps224
 go_wp2_with (at_make;refine wpList_make_full _ rfl _ _ 145 rfl w.heap.size 111 i0 (.int .u64 0) 1 Tryz.underlying145 hi hz0 hz1 _ _ _ _ n rfl rfl (by omega) (by omega) (by rw [hz2];omega) (by unfold maxLen;omega) (Nat.le_refl _) ?_;intro w1 hown hgrow)
 have ho0:=Ow.zeros hown
 have hE0:Ext w w1:=(Ext.refl w).grown hgrow (Nat.le_refl _) (fun _ h=>by cases h)
 rw [hB] at ho0
 clear hown hgrow hi hz0 hz1 hz2 i0
 go_wp2
 go_loopw [12] (fun t wr=>∃ (i:Nat) (o:List Nat),i≤L∧t = .int .i64 (i:Nat)∧Hid (LP xs n i o)∧Ow wr B (.slice (some ⟨B,0,none⟩) n n) o∧Ext w wr) (fun t _=>L-(intOf t).toNat)
 case atStart=>exact ⟨0,_,Nat.zero_le _,rfl,uF,ho0,hE0⟩
 case round =>
  clear ho0 hE0 uF
  obtain ⟨i,o,hiq,rfl,HO,hown,hE⟩:=hrel
  by_cases hlt:i<L
  · obtain ⟨ad,rfl,hb,hcell⟩:=hr (by omega)
    have hc0:=(hE.cell (p:=ad.add i) (by rw [aL];exact hb)).trans (hcell i (by omega))
    have hxb:=dz hx i
    obtain ⟨x,hx0⟩:∃ x,lb xs i=x:=⟨_,rfl⟩
    rw [hx0] at hc0 hxb
    have hxw:=kU (show x<18446744073709551616 by omega)
    have hxm:=lU (show x<18446744073709551616 by omega)
    have hbn:(ad.add i).block≠B:=by rw [aL];omega
    obtain ⟨k,hk⟩:∃ k,i/2=k:=⟨_,rfl⟩
    have k1:(i:Int)/2=(k:Int):=by omega
    have k2:(i:Int).tdiv 2=(k:Int):=by rw [Int.tdiv_eq_ediv_of_nonneg (by omega)];exact k1
    have k3:(k:Int)<(n:Int):=by omega
    have k4:(0:Int)≤(k:Int):=Int.natCast_nonneg k
    have k5:=xk (show k≤1000000 by omega)
    have k6:k<n:=by omega
    have hf:=hown.frozen k
    have hcz:=hown.cell (j:=k) k6
    rcases (show i=2*k∨i=2*k+1 by omega) with e | e
    · obtain ⟨p1,p2⟩:=HO.out.low k e k6 x hx0
      rw [p1] at hcz
      have HST:=Lib.hid p2
      have m1:(i:Int)%2=0:=by omega
      have m2:(i:Int).tmod 2=0:=by rw [Int.tmod_eq_emod_of_nonneg (by omega)];exact m1
      have o1:bits .or .u64 0 (x:Int)=(x:Int):=by
       have:=u64_or_nat 0 x (by decide) (by omega)
       rw [Nat.zero_or] at this
       exact this
      have hown2:=hown.qO k x
      have hE2:=hE.setCell (p:=⟨B,k,none⟩) (by rw [hB];exact Nat.le_refl _) (.int .u64 (x:Nat))
      clear hx0 hk e p1 p2 hown HO hE hxb
      go_wp2
      go_region
      all_goals
       go_wp2
       go_roundw
       case rel=>exact ⟨i+1,_,by omega,by go_num,HST,hown2.drew,hE2.drew⟩
       case measure=>simp [intOf];omega
    · obtain ⟨p1,p2⟩:=HO.out.high k e k6 x hx0
      have hyb:=dz hx (2*k)
      obtain ⟨y,hy0⟩:∃ y,lb o k=y:=⟨_,rfl⟩
      rw [hy0] at hcz p1 p2
      rw [← p1] at hyb
      obtain ⟨z,hz⟩:∃ z,y+4294967296*x=z:=⟨_,rfl⟩
      rw [hz] at p2
      have HST:=Lib.hid p2
      have m1:(i:Int)%2=1:=by omega
      have m2:(i:Int).tmod 2=1:=by rw [Int.tmod_eq_emod_of_nonneg (by omega)];exact m1
      have o1:=u64_or32 y x z hyb hxb hz
      have o2:(x:Int)*4294967296=((4294967296*x:Nat):Int):=by omega
      have o3:=kU (show 4294967296*x<18446744073709551616 by omega)
      have o4:=lU (show 4294967296*x<18446744073709551616 by omega)
      have hown2:=hown.qO k z
      have hE2:=hE.setCell (p:=⟨B,k,none⟩) (by rw [hB];exact Nat.le_refl _) (.int .u64 (z:Nat))
      generalize 4294967296*x=x2 at *
      clear hx0 hk e p1 p2 hown HO hE hxb hyb hy0 hz
      go_wp2
      go_region
      all_goals
       go_wp2
       go_roundw
       case rel=>exact ⟨i+1,_,by omega,by go_num,HST,hown2.drew,hE2.drew⟩
       case measure=>simp [intOf];omega
  · obtain rfl:i=L:=by omega
    obtain ⟨d1,d2⟩:=Tv.out o HO.out
    have HF:Hid (∃ o,Ow wr B (.slice (some ⟨B,0,none⟩) n n) o∧bU o=val xs∧(∀ x∈o,x<18446744073709551616)∧o.length=n):=⟨o,hown,d1,d2,HO.out.len⟩
    clear d1 d2 hown HO
    go_wp2
    go_ret
    exact ⟨rfl,HF.out,hE⟩
set_option maxRecDepth 100000 in
theorem vC (w:World) (g0:Nat) (v:Value) (ws:List Nat) (h:V g0 w v ws) (hl:ws.length≤1000000) (k:Nat) (hk:bU ws=k) :
  Calls Tryz.prog 226 #[v] w fun e w'=>(∃ u,e = .returned u∧Un w' u k)∧Ext w w':=by
 obtain ⟨A,c,rfl,⟨hc,hmx⟩,hx,hr⟩:=h
 obtain ⟨i0,hi,hz0,hz1,hz2⟩:=info_parts oJ
 obtain ⟨n,hn⟩:∃ n,ws.length=n:=⟨_,rfl⟩
 rw [hn] at hc hmx hr hl ⊢
 obtain ⟨m,hm⟩:∃ m,2*n=m:=⟨_,rfl⟩
 have HM:Hid ((fK ws).length=m):=by rw [Hid,zO,hn];exact hm
 have ZV:(2:Int)*(n:Int)=(m:Int):=by omega
 obtain ⟨B,hB⟩:∃ B,w.heap.size=B:=⟨_,rfl⟩
 have hm1:m≤2000000:=by omega
 have HW:=Lib.hid (BI ws hx)
 have HTR:=Lib.hid (fun W v h=>yV W v (fK ws) h k (by rw [zP];exact hk))
 clear hn hk
 go_enter Tryz.func226,Tryz.ntmps226
 go_wp2_with (at_make;refine wpList_make_full _ rfl _ _ 24 rfl w.heap.size 57 i0 (.int .u32 0) 1 Tryz.underlying24 hi hz0 hz1 _ _ _ _ m rfl rfl (by omega) (by omega) (by rw [hz2];omega) (by unfold maxLen;omega) (Nat.le_refl _) ?_;intro w1 hown hgrow)
 have ho0:Own w1 w.heap.size (.slice (some ⟨w.heap.size,0,none⟩) m m) (List.replicate m 0):=by
  have:=Own.zeros hown
  rwa [List.length_replicate] at this
 have hE0:Ext w w1:=(Ext.refl w).grown hgrow (Nat.le_refl _) (fun _ h=>by cases h)
 rw [hB] at ho0
 clear hown hgrow hi hz0 hz1 hz2 i0
 go_wp2
 go_loopw [12] (fun t wr=>∃ (i:Nat) (o:List Nat),i≤n∧t = .int .i64 (i:Nat)∧Hid (TU ws m i o)∧Own wr B (.slice (some ⟨B,0,none⟩) m m) o∧Ext w wr) (fun t _=>n-(intOf t).toNat)
 case atStart=>exact ⟨0,_,Nat.zero_le _,rfl,⟨by simp,fun j hj=>absurd hj (by omega)⟩,ho0,hE0⟩
 case round =>
  clear ho0 hE0
  obtain ⟨i,o,hiq,rfl,HO,hown,hE⟩:=hrel
  by_cases hlt:i<n
  · obtain ⟨ad,rfl,hb,hne,hcell⟩:=hr (by omega)
    have hc0:=(hE.cell (p:=ad.add i) (by rw [aL];exact hb)).trans (hcell i hlt)
    have hb0:lb ws i<18446744073709551616:=fQ (by decide) hx i
    obtain ⟨x,hx0⟩:∃ x,lb ws i=x:=⟨_,rfl⟩
    rw [hx0] at hc0 hb0
    have HST:Hid (TU ws m (i+1) ((o.set (2*i) (x%4294967296)).set (2*i+1) (x/4294967296))):=HO.out.step (by omega) x hx0
    have hol:=HO.out.len
    have hf0:=hown.frozen' (2*i)
    have hf1:=hown.frozen' (2*i+1)
    have hk0:=hown.rd.2 (2*i) (by omega)
    have hk1:=hown.rd.2 (2*i+1) (by omega)
    have hown2:=(hown.set' (2*i) (x%4294967296)).set' (2*i+1) (x/4294967296)
    have hE2:=(hE.setCell (p:=⟨B,2*i,none⟩) (by rw [hB];exact Nat.le_refl _) (.int .u32 (x%4294967296:Nat))).setCell (p:=⟨B,2*i+1,none⟩) (by rw [hB];exact Nat.le_refl _) (.int .u32 (x/4294967296:Nat))
    obtain ⟨x0,PR⟩:∃ x0,x%4294967296=x0:=⟨_,rfl⟩
    obtain ⟨x1,PS⟩:∃ x1,x/4294967296=x1:=⟨_,rfl⟩
    rw [PR,PS] at HST hown2 hE2
    have f0:IntKind.u32.wrap (x:Int)=(x0:Int):=by rw [IntKind.wrap_u32];omega
    have f00:(x:Int)%4294967296=(x0:Int):=by omega
    have f1:(x:Int)/4294967296=(x1:Int):=by omega
    have TV:x1<4294967296:=by omega
    have f2:IntKind.u32.wrap (x1:Int)=(x1:Int):=by rw [IntKind.wrap_u32];omega
    have f3:(x1:Int)%4294967296=(x1:Int):=by omega
    have h2a:(0:Int)≤2*(i:Int):=by omega
    have h2b:2*(i:Int)<(m:Int):=by omega
    have h2c:2*(i:Int)+1<(m:Int):=by omega
    have h2d:(2*(i:Int)).toNat=2*i:=by omega
    have h2e:(2*(i:Int)+1).toNat=2*i+1:=by omega
    have hbn:(ad.add i).block≠B:=by rw [aL];omega
    clear hx0 hb0 PR PS hown HO hE hol
    go_wp2
    go_roundw
    case rel=>exact ⟨i+1,_,by omega,by go_num,HST,hown2,hE2⟩
    case measure=>simp [intOf];omega
  · obtain rfl:i=n:=by omega
    have hdone:=HO.out.done HM.out hm
    rw [hdone] at hown
    have hu:=hown.BJ HW.out (by rw [HM.out];omega)
    clear hdone HO hown
    go_wp2_with (fail)
    refine (HTR.out _ _ hu).mono ?_
    rintro e w2 ⟨u,rfl,hu2,hB2⟩
    have HF:Hid (∃ u',Ending.returned u = .returned u'∧Un w2 u' k):=⟨_,rfl,hu2⟩
    replace hE:=hE.below hB2
    clear hu2 hu hB2
    go_wp2
    go_ret
    exact ⟨HF.out,hE⟩
end Go.Proofs.YtgcieamfidoaoaaGreatDoor
