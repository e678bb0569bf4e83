/- Products of limbs by school. -/
import Derived.Test.YtgcieamfidoaoaaGreatDoorBag
import Derived.Test.YtgcieamfidoaoaaGreatDoorBad
import Derived.Deep.CutBlock
set_option linter.all false
set_option maxHeartbeats 8000000
namespace Go.Proofs.YtgcieamfidoaoaaGreatDoor
open Go.RowKit
def LB:Nat:=4294967296
theorem oN (o:List Nat) (j x:Nat) (h:j<o.length):val (o.set j x)+LB^j*lb o j=val o+LB^j*x:=by
 rw [Nat.mul_comm (LB^j),Nat.mul_comm (LB^j)];exact qR o j x h
theorem eP (xs:List Nat) (i:Nat) (h:i<xs.length):val (xs.take (i+1))=val (xs.take i)+LB^i*lb xs i:=by
 rw [Nat.mul_comm];exact kT xs i h
theorem Pf (P S S' x y c d A v:Nat) (hset:S'+P*x=S+P*v) (hinv:S+P*c=A) (hd:x+y+c=v+LB*d):S'+P*LB*d=A+P*y:=by
 have h1:P*(x+y+c)=P*(v+LB*d):=by rw [hd]
 rw [Nat.mul_add,Nat.mul_add,Nat.mul_add,← Nat.mul_assoc] at h1
 omega
structure Kg (o0:List Nat) (n off:Nat) (A:Nat) (i:Nat) (o:List Nat) (cy:Nat):Prop where
 len:o.length=n
 lt:∀ x∈o,x<4294967296
 Bz:cy<4294967296
 val:val o+LB^(off+i)*cy=A
 out:∀ m,off+i≤m→lb o m=lb o0 m
theorem Kg.step {o0:List Nat} {n off A i:Nat} {o:List Nat} {cy:Nat} (h:Kg o0 n off A i o cy) (hi:off+i<n) (t s d:Nat)
  (hs:lb o (off+i)+t+cy=s+LB*d) (hsb:s<4294967296) (hd:d<4294967296):Kg o0 n off (A+LB^(off+i)*t) (i+1) (o.set (off+i) s) d:=by
 refine ⟨by simp [h.len],iQ h.lt hsb,hd,?_,fun m hm=>?_⟩
 · rw [← Nat.add_assoc,Nat.pow_succ]
   exact Pf _ _ _ _ _ _ _ _ _ (oN o (off+i) s (by rw [h.len];exact hi)) h.val hs
 · rw [dA _ (by omega)];exact h.out m (by omega)
structure GZ (gV bs:List Nat) (n:Nat) (i:Nat) (o:List Nat):Prop where
 len:o.length=n
 lt:∀ x∈o,x<4294967296
 val:val o=val gV*val (bs.take i)
 out:∀ m,i+gV.length≤m→lb o m=0
theorem oD (t z cr s d u:Nat) (ht:t≤18446744065119617025) (hz:z<4294967296) (hc:cr<4294967296) (hu:cr+(t+z)=u) (hs:u%4294967296=s) (hd:u/4294967296=d) :
  z+t+cr=s+LB*d∧s<4294967296∧d<4294967296∧u<18446744073709551616∧t+z<18446744073709551616:=by
 unfold LB
 refine ⟨by omega,by omega,by omega,by omega,by omega⟩
set_option maxRecDepth 100000 in
theorem Aw (b:Bool) (w:World) (vx vy:Value) (xs ys:List Nat) (nx ny:Nat) (hx:U w vx xs) (hy:U w vy ys) (hnx:xs.length=nx) (hny:ys.length=ny) (hle:ny≤nx) (hb:b=true→ny<nx) (h12:ny<12) (hn:nx≤1000) :
  Calls Tryz.prog 133 #[(if b then vy else vx),(if b then vx else vy)] w fun e w'=>(∃ u,e = .returned u∧Un w' u (val xs*val ys))∧Ext w w':=by
 obtain ⟨A,ca,rfl,⟨hca,hma⟩,hxl,Io⟩:=id hx
 obtain ⟨A2,cb,rfl,⟨hcb,hmb⟩,hyl,Ip⟩:=id hy
 have HL:Hid (xs.length=nx∧ys.length=ny):=⟨hnx,hny⟩
 have QJ:=Lib.hid (fun k=>eP xs k)
 have QK:=Lib.hid (fun k=>eP ys k)
 have HT2:Hid (xs.take nx=xs∧ys.take ny=ys):=⟨by rw [← hnx];exact List.take_length,by rw [← hny];exact List.take_length⟩
 rw [hnx] at hca hma Io ⊢
 rw [hny] at hcb hmb Ip ⊢
 obtain ⟨n,hnn⟩:∃ n,nx+ny=n:=⟨_,rfl⟩
 have hni:(nx:Int)+(ny:Int)=(n:Int):=by omega
 have hm1:(if (ny:Int)<(nx:Int) then (ny:Int) else (nx:Int))=(ny:Int):=by split<;>omega
 have hm2:(if (nx:Int)<(ny:Int) then (nx:Int) else (ny:Int))=(ny:Int):=by split<;>omega
 have ZY:(if ny<nx then (ny:Int) else (nx:Int))=(ny:Int):=by split<;>omega
 have hm4:(if nx<ny then (nx:Int) else (ny:Int))=(ny:Int):=by split<;>omega
 have acY:decide ((12:Int)≤(ny:Int))=false:=by rw [decide_eq_false_iff_not];omega
 obtain ⟨i0,hi,hz0,hz1,hz2⟩:=info_parts oJ
 obtain ⟨B,hB⟩:∃ B,w.heap.size=B:=⟨_,rfl⟩
 have yM:=Lib.hid hB
 have hlt:b=true→ny<nx:=hb
 clear hx hy hnx hny hb
 cases b
 case' false =>
  show Calls Tryz.prog 133 #[.slice A nx ca,.slice A2 ny cb] w _
  have hd:decide ((nx:Int)<(ny:Int))=false:=by rw [decide_eq_false_iff_not];omega
  go_enter Tryz.func133,Tryz.ntmps133
  go_upto_region 5 with (fail)
 case' true =>
  show Calls Tryz.prog 133 #[.slice A2 ny cb,.slice A nx ca] w _
  have hlt':=hlt rfl
  have hd:decide ((ny:Int)<(nx:Int))=true:=by rw [decide_eq_true_iff];omega
  go_enter Tryz.func133,Tryz.ntmps133
  go_upto_region 5 with (fail)
 all_goals
  clear hd hm1 hm2 ZY hm4 acY hlt
  go_wp2_with (at_make;refine wpList_make_full _ rfl _ _ 24 rfl w.heap.size 57 i0 (.int .u32 0) 1 Tryz.underlying24 hi hz0 hz1 _ _ _ _ n rfl rfl (by omega) (by omega) (by rw [hz2];omega) (by unfold maxLen;omega) (Nat.le_refl _) ?_;intro w1 hown hgrow)
  have ho0:Own w1 w.heap.size (.slice (some ⟨w.heap.size,0,none⟩) n n) (List.replicate n 0):=by
   have:=Own.zeros hown
   rwa [List.length_replicate] at this
  have hE0:Ext w w1:=(Ext.refl w).grown hgrow (Nat.le_refl _) (fun _ h=>by cases h)
  rw [hB] at ho0
  clear hown hgrow hi hz0 hz1 hz2 i0
  have hS0:Hid (GZ xs ys n 0 (List.replicate n 0)):=⟨by simp,fun x hx=>by simp at hx;omega,by simp [dM,val],fun m _=>jq _ _⟩
  go_wp2
  go_loopw [39] (fun t wr=>∃ (i:Nat) (o:List Nat),i≤ny∧t = .int .i64 (i:Nat)∧Hid (GZ xs ys n i o)∧Own wr B (.slice (some ⟨B,0,none⟩) n n) o∧Ext w wr) (fun t _=>ny-(intOf t).toNat)
  case atStart=>exact ⟨0,_,Nat.zero_le _,rfl,hS0,ho0,hE0⟩
  case round =>
   clear hS0 ho0 hE0
   obtain ⟨i,o,hib,rfl,HO,hown,hE⟩:=hrel
   by_cases hlt:i<ny
   · obtain ⟨Ir,rfl,hb2,hcell2⟩:=Ip (by omega)
     obtain ⟨ad,rfl,hb1,hcell1⟩:=Io (by omega)
     have hc0:=(hE.cell (p:=Ir.add i) (by rw [aL];exact hb2)).trans (hcell2 i hlt)
     have hyb:=dz hyl i
     have hty:=QK.out i (by rw [HL.out.2];exact hlt)
     obtain ⟨y,yL⟩:∃ y,lb ys i=y:=⟨_,rfl⟩
     rw [yL] at hc0 hyb hty
     have g1:i<n:=by omega
     have g2:(i:Int)<(n:Int):=by omega
     have g3:(i:Int)≤(i:Int)+(nx:Int):=by omega
     have g4:(i:Int)+(nx:Int)≤(n:Int):=by omega
     have g5:(0:Int)≤(i:Int):=by omega
     have g6:((i:Int)+(nx:Int)).toNat=i+nx:=by omega
     have g7:i+nx-i=nx:=by omega
     have g8:¬ (n=i):=by omega
     have g9:IntKind.i64.wrap ((i:Int)+(nx:Int))=(i:Int)+(nx:Int):=IntWalk.i64_in _ (by omega)
     have g10:(0:Int)≤(i:Int)+(nx:Int):=by omega
     go_wp2_with (fail)
     go_quiet (fail)
     go_wp2_with (fail)
     have Iq:Hid (Kg o n i (val o+LB^i*(val (xs.take 0)*y)) 0 o 0):=⟨HO.out.len,HO.out.lt,by decide,by simp [val],fun m _=>rfl⟩
     have hEd:Ext w (wr.drewN nq):=hE.below (iF _ _)
     have XE:Own (wr.drewN nq) B (.slice (some ⟨B,0,none⟩) n n) o:=hown.ext (iF _ _)
     have sO:Hid (val (ys.take (i+1))=val (ys.take i)+LB^i*y):=hty
     have hno:Hid (lb o (i+nx)=0):=HO.out.out _ (by rw [HL.out.1];exact Nat.le_refl _)
     clear yL hc0 hown hE hty
     go_loopw [53,8] (fun t s wx=>∃ (j:Nat) (o2:List Nat) (cy:Nat),j≤nx∧t = .int .i64 (j:Nat)∧s = .int .u64 (cy:Nat)∧Hid (Kg o n i (val o+LB^i*(val (xs.take j)*y)) j o2 cy)∧Own wx B (.slice (some ⟨B,0,none⟩) n n) o2∧Ext w wx) (fun t _ _=>nx-(intOf t).toNat)
     case atStart=>exact ⟨0,o,0,Nat.zero_le _,rfl,rfl,Iq,XE,hEd⟩
     case round =>
      clear Iq XE hEd
      obtain ⟨j,o2,cy,hj,rfl,rfl,HW,hown,hE⟩:=hrel
      by_cases hjt:j<nx
      · have hc1:=(hE.cell (p:=ad.add j) (by rw [aL];exact hb1)).trans (hcell1 j hjt)
        have hxb:=dz hxl j
        have htk:=QJ.out j (by rw [HL.out.1];exact hjt)
        have hcz:=hown.rd.2 (i+j) (by rw [HW.out.len];omega)
        have hf:=hown.frozen' (i+j)
        have hzb:=dz HW.out.lt (i+j)
        have hcy:=HW.out.Bz
        obtain ⟨x,BG⟩:∃ x,lb xs j=x:=⟨_,rfl⟩
        rw [BG] at hc1 hxb htk
        obtain ⟨z,hzz⟩:∃ z,lb o2 (i+j)=z:=⟨_,rfl⟩
        rw [hzz] at hcz hzb
        obtain ⟨t,ht⟩:∃ t,x*y=t:=⟨_,rfl⟩
        have ht1:t≤18446744065119617025:=by rw [← ht];exact El hxb hyb
        have hti:(x:Int)*(y:Int)=(t:Int):=by rw [← ht,Int.natCast_mul]
        obtain ⟨u,hu⟩:∃ u,cy+(t+z)=u:=⟨_,rfl⟩
        obtain ⟨s,hs⟩:∃ s,u%4294967296=s:=⟨_,rfl⟩
        obtain ⟨d,hd⟩:∃ d,u/4294967296=d:=⟨_,rfl⟩
        obtain ⟨hm,hsb,hdb,hub,htz⟩:=oD t z cy s d u ht1 hzb hcy hu hs hd
        have hst:=HW.out.step (by omega) t s d (by rw [hzz];exact hm) hsb hdb
        rw [Nat.add_assoc (val o),Nat.pow_add,Nat.mul_assoc,← Nat.mul_add,← ht,← Nat.mul_assoc,← Nat.add_mul,← htk] at hst
        have HST:=Lib.hid hst
        have hown2:=hown.set' (i+j) s
        have hE2:=hE.setCell (p:=⟨B,i+j,none⟩) (by rw [yM.out];exact Nat.le_refl _) (.int .u32 (s:Nat))
        have q1:IntKind.u64.wrap (t:Int)=(t:Int):=by rw [IntKind.wrap_u64];omega
        have q2:IntKind.u64.wrap ((t:Int)+(z:Int))=(t:Int)+(z:Int):=by rw [IntKind.wrap_u64];omega
        have q3:(cy:Int)+((t:Int)+(z:Int))=(u:Int):=by omega
        have q4:IntKind.u64.wrap (u:Int)=(u:Int):=by rw [IntKind.wrap_u64];omega
        have q5:IntKind.u32.wrap (u:Int)=(s:Int):=by rw [IntKind.wrap_u32];omega
        have q6:(u:Int)%4294967296=(s:Int):=by omega
        have q7:(u:Int)/4294967296=(d:Int):=by omega
        have q8:IntKind.u64.wrap (x:Int)=(x:Int):=by rw [IntKind.wrap_u64];omega
        have q9:IntKind.u64.wrap (y:Int)=(y:Int):=by rw [IntKind.wrap_u64];omega
        have q10:IntKind.u64.wrap (z:Int)=(z:Int):=by rw [IntKind.wrap_u64];omega
        have q11:(u:Int)%18446744073709551616=(u:Int):=by omega
        have q12:(t:Int)%18446744073709551616=(t:Int):=by omega
        have q13:((t:Int)+(z:Int))%18446744073709551616=(t:Int)+(z:Int):=by omega
        have hbn:(ad.add j).block≠B:=by rw [aL];have:=yM.out;omega
        clear hst htk BG hzz ht hu hs hd hm hown hE HW hxb hzb ht1 hcy
        go_wp2
        go_roundw
        case rel=>exact ⟨j+1,_,d,by omega,by go_num,rfl,HST,hown2,hE2⟩
        case measure=>simp [intOf];omega
      · obtain rfl:j=nx:=by omega
        have hcz:=hown.rd.2 (i+j) (by rw [HW.out.len];omega)
        have hf:=hown.frozen' (i+j)
        have hl0:lb o2 (i+j)=0:=by rw [HW.out.out _ (Nat.le_refl _)];exact hno.out
        have hws:=oN o2 (i+j) cy (by rw [HW.out.len];omega)
        rw [hl0,Nat.mul_zero,Nat.add_zero,HW.out.val,HT2.out.1] at hws
        have qx:(Value.int .u32 (lb o2 (i+j):Nat)) = .int .u32 0:=by rw [hl0];rfl
        rw [qx] at hcz
        have sP:=HW.out.Bz
        have q5:IntKind.u32.wrap (cy:Int)=(cy:Int):=by rw [IntKind.wrap_u32];omega
        have q6:(cy:Int)%4294967296=(cy:Int):=by omega
        have hown2:=hown.set' (i+j) cy
        have hE2:=hE.setCell (p:=⟨B,i+j,none⟩) (by rw [yM.out];exact Nat.le_refl _) (.int .u32 (cy:Nat))
        have HST:Hid (GZ xs ys n (i+1) (o2.set (i+j) cy)):=by
         refine ⟨by rw [List.length_set];exact HW.out.len,iQ HW.out.lt sP,?_,fun m hm=>?_⟩
         · rw [hws,sO.out,Nat.mul_add,← HO.out.val,Nat.mul_left_comm]
         · rw [HL.out.1] at hm
           rw [dA _ (by omega),HW.out.out _ (by omega)]
           exact HO.out.out m (by rw [HL.out.1];omega)
        have g12:(i:Int)+(j:Int)<(n:Int):=by omega
        have g13:i+j<n:=by omega
        clear hl0 hws qx hown hE HW sP sO hno
        go_wp2
        go_roundw
        case rel=>exact ⟨i+1,_,by omega,by go_num,HST,hown2,hE2⟩
        case measure=>simp [intOf];omega
   · obtain rfl:i=ny:=by omega
     have hu:=hown.BJ HO.out.lt (by rw [HO.out.len];omega)
     have hvv:=HO.out.val
     rw [HT2.out.2] at hvv
     have HV:=Lib.hid hvv
     clear hown HO hvv
     go_wp2_with (fail)
     refine (yG _ _ _ hu).mono ?_
     rintro e w2 ⟨⟨u,rfl,hu2⟩,rfl⟩
     rw [HV.out] at hu2
     have HF:Hid (∃ u',Ending.returned u = .returned u'∧Un wr u' (val xs*val ys)):=⟨_,rfl,hu2⟩
     clear hu2 hu
     go_wp2
     go_ret
     exact ⟨HF.out,hE⟩
end Go.Proofs.YtgcieamfidoaoaaGreatDoor
/- Products by school; sums of products, carried. -/
namespace Go.Proofs.YtgcieamfidoaoaaGreatDoor
open Go.RowKit
set_option maxRecDepth 100000 in
theorem Ld (w:World) (va vb:Value) (xs ys:List Nat) (ha:U w va xs) (hb:U w vb ys) (hla:xs.length≤1000) (hlb:ys.length≤1000) (h12:12≤min xs.length ys.length) :
  Calls Tryz.prog 133 #[va,vb] w fun e w'=>(∃ u,e = .returned u∧Un w' u (val xs*val ys))∧Ext w w':=by
 obtain ⟨A,ca,rfl,hca⟩:=ha.shape
 obtain ⟨A2,cb,rfl,hcb⟩:=hb.shape
 obtain ⟨na,hna⟩:∃ na,(xs.length+1)/2=na:=⟨_,rfl⟩
 obtain ⟨nb,hnb⟩:∃ nb,(ys.length+1)/2=nb:=⟨_,rfl⟩
 have hHW:=Lib.hid (And.intro (uE xs) (uE ys))
 have hHP:=Lib.hid (And.intro (BC xs ha.lim) (BC ys hb.lim))
 have hHL:Hid ((jW xs).length=na∧(jW ys).length=nb):=⟨by rw [oz,hna],by rw [oz,hnb]⟩
 have hPa:=Lib.hid (fun W h=>Dt W (.slice A xs.length ca) xs h (by omega) na hna)
 have hPb:=Lib.hid (fun W h=>Dt W (.slice A2 ys.length cb) ys h (by omega) nb hnb)
 have ajQ:na≤501:=by omega
 have ajR:nb≤501:=by omega
 generalize xs.length=lx at *
 generalize ys.length=ly at *
 obtain ⟨m,hm⟩:∃ m,min lx ly=m:=⟨_,rfl⟩
 have hm1:(if (ly:Int)<(lx:Int) then (ly:Int) else (lx:Int))=(m:Int):=by split<;>omega
 have ZY:(if ly<lx then (ly:Int) else (lx:Int))=(m:Int):=by split<;>omega
 have acY:decide ((12:Int)≤(m:Int))=true:=by rw [decide_eq_true_iff];omega
 have hE:=Ext.refl w
 clear hna hnb h12 hm
 go_enter Tryz.func133,Tryz.ntmps133
 go_wp2_with (fail)
 refine (hPa.out _ ha).mono ?_
 rintro e w2 ⟨rfl,ho1,hB⟩
 replace hE:=hE.below hB
 replace hb:=hb.below hB
 clear hB ha
 go_wp2_with (fail)
 refine (hPb.out _ hb).mono ?_
 rintro e w3 ⟨rfl,ho2,hB⟩
 replace hE:=hE.below hB
 replace ho1:=ho1.ext hB
 clear hB hb
 go_wp2_with (fail)
 refine (Lc w3 (w.heap.size+1) (w2.heap.size+1) _ _ _ _ (ho1.ZX hHP.out.1 _ (by omega)) (ho2.ZX hHP.out.2 _ (by omega)) na nb hHL.out.1 hHL.out.2 (by omega)).mono ?_
 rintro e w4 ⟨hp,hB⟩
 obtain ⟨g,c,o,rfl,ho,hv,hl,hlen⟩:=hp.open (na+nb) rfl
 replace hE:=hE.below hB
 clear hB ho1 ho2 hp
 go_wp2_with (fail)
 refine (GK w4 (g+1) _ o (ho.ZX hl _ (by omega)) (by omega)).mono ?_
 rintro e w5 ⟨⟨u,rfl,hu⟩,hB⟩
 rw [hv,hHW.out.1,hHW.out.2] at hu
 replace hE:=hE.below hB
 have HF:Hid (∃ u',Ending.returned u = .returned u'∧Un w5 u' (val xs*val ys)):=⟨_,rfl,hu⟩
 clear hB ho hu hv hl hlen
 go_wp2
 go_ret
 exact ⟨HF.out,hE⟩
theorem GL (w:World) (va vb:Value) (xs ys:List Nat) (ha:U w va xs) (hb:U w vb ys) (hla:xs.length≤1000) (hlb:ys.length≤1000) :
  Calls Tryz.prog 133 #[va,vb] w fun e w'=>(∃ u,e = .returned u∧Un w' u (val xs*val ys))∧Ext w w':=by
 by_cases h:12≤min xs.length ys.length
 · exact Ld w va vb xs ys ha hb hla hlb h
 · by_cases hlt:xs.length<ys.length
   · have:=Aw true w vb va ys xs _ _ hb ha rfl rfl (by omega) (fun _=>hlt) (by omega) hlb
     rw [Nat.mul_comm (val ys)] at this
     exact this
   · exact Aw false w va vb xs ys _ _ ha hb rfl rfl (by omega) (fun h=>by cases h) (by omega) hla
end Go.Proofs.YtgcieamfidoaoaaGreatDoor
/- Products of short numbers: below 79 limbs (of the shorter one) word by word. -/
namespace Go.Proofs.YtgcieamfidoaoaaGreatDoor
open Go.RowKit
theorem Wq (w:World) (va vb:Value) (xs ys:List Nat) (ha:U w va xs) (hb:U w vb ys) (hla:xs.length≤1000) (hlb:ys.length≤1000) (h78:min xs.length ys.length≤78) :
  Calls Tryz.prog 94 #[va,vb] w fun e w'=>(∃ u,e = .returned u∧Un w' u (val xs*val ys))∧Ext w w':=by
 obtain ⟨A,ca,rfl,hca⟩:=ha.shape
 obtain ⟨A2,cb,rfl,hcb⟩:=hb.shape
 have hSc:=Lib.hid (GL w _ _ xs ys ha hb hla hlb)
 generalize xs.length=lx at *
 generalize ys.length=ly at *
 obtain ⟨m,hm⟩:∃ m,min lx ly=m:=⟨_,rfl⟩
 have hm1:(if (ly:Int)<(lx:Int) then (ly:Int) else (lx:Int))=(m:Int):=by split<;>omega
 have ZY:(if ly<lx then (ly:Int) else (lx:Int))=(m:Int):=by split<;>omega
 obtain ⟨q,hq⟩:∃ q,(m+1)/2=q:=⟨_,rfl⟩
 have hqi:((m:Int)+1)/2=(q:Int):=by omega
 have h40:q<40:=by omega
 clear ha hb hm hq h78
 have hd:decide ((q:Int)<40)=true:=by rw [decide_eq_true_iff];omega
 go_enter Tryz.func94,Tryz.ntmps94
 go_wp2_with (fail)
 refine hSc.out.mono ?_
 rintro e w1 ⟨⟨u,rfl,hu⟩,hB⟩
 have HF:Hid (∃ u',Ending.returned u = .returned u'∧Un w1 u' (val xs*val ys)):=⟨_,rfl,hu⟩
 clear hu
 go_wp2
 go_ret
 exact ⟨HF.out,hB⟩
end Go.Proofs.YtgcieamfidoaoaaGreatDoor
/- The mathematics of a digit of a quotient: the guess by three words and two is right, or one too great. -/
namespace Go.Proofs.YtgcieamfidoaoaaGreatDoor
open Go.RowKit
structure GsI (B P D T V U v1 v0 t1 u0 q r:Nat):Prop where
 inv:q*v1+r=t1
 top:U<(q+1)*V
 lt:q<B
theorem LH (B D T v1 v0 t1 u0 q r:Nat) (hD:D=v1*B+v0) (hT:T=t1*B+u0) (hq:q*v1+r=t1):q*D≤T↔q*v0≤r*B+u0:=by
 have h1:q*D=q*v1*B+q*v0:=by rw [hD,Nat.mul_add,Nat.mul_assoc]
 have h2:t1*B=q*v1*B+r*B:=by rw [← hq,Nat.add_mul]
 omega
theorem TD (B P D T V U v1 v0 vr t1 u0 ur q r:Nat) (hD:D=v1*B+v0) (hT:T=t1*B+u0) (hV:V=D*P+vr) (hU:U=T*P+ur) (hur:ur<P)
  (h:GsI B P D T V U v1 v0 t1 u0 q r) (hgt:r*B+u0<q*v0):1≤q∧GsI B P D T V U v1 v0 t1 u0 (q-1) (r+v1):=by
 have h1:T<q*D:=Nat.lt_of_not_le fun hle=>by
  have:=(LH B D T v1 v0 t1 u0 q r hD hT h.inv).1 hle
  omega
 have hq:1≤q:=by
  rcases Nat.eq_zero_or_pos q with h0 | h0
  · rw [h0,Nat.zero_mul] at h1;omega
  · exact h0
 refine ⟨hq,?_⟩
 obtain ⟨p,rfl⟩:∃ p,q=p+1:=⟨q-1,by omega⟩
 refine ⟨?_,?_,by have:=h.lt;omega⟩
 · have:=h.inv
   rw [Nat.add_sub_cancel]
   rw [Nat.add_mul,Nat.one_mul] at this
   omega
 · rw [Nat.add_sub_cancel]
   have h2:(T+1)*P≤(p+1)*D*P:=Nat.mul_le_mul_right P h1
   have h3:(p+1)*V=(p+1)*D*P+(p+1)*vr:=by rw [hV,Nat.mul_add,Nat.mul_assoc]
   rw [Nat.add_mul T 1,Nat.one_mul] at h2
   omega
theorem XF (B P D T V U v1 v0 vr t1 u0 ur q r:Nat) (hD:D=v1*B+v0) (hT:T=t1*B+u0) (hV:V=D*P+vr) (hU:U=T*P+ur) (Eb:vr≤P) (hBD:B≤D)
  (h:GsI B P D T V U v1 v0 t1 u0 q r) (hle:q*v0≤r*B+u0):q*V≤U+V:=by
 have h1:=(LH B D T v1 v0 t1 u0 q r hD hT h.inv).2 hle
 have h2:q*D*P≤T*P:=Nat.mul_le_mul_right P h1
 have h3:q*V=q*D*P+q*vr:=by rw [hV,Nat.mul_add,Nat.mul_assoc]
 have h4:q*vr≤D*P:=Nat.mul_le_mul (by have:=h.lt;omega) Eb
 omega
theorem TE (x q bo v s1 c1 s c2 hi lo b2:Nat) (hx:x<18446744073709551616) (hq:q<18446744073709551616) (hb:bo<18446744073709551616) (hv:v<18446744073709551616)
  (hp:x*q=18446744073709551616*hi+lo) (hlo:lo<18446744073709551616)
  (h1:s1+lo=v+18446744073709551616*c1) (hs1:s1<18446744073709551616) (h2:s+bo=s1+18446744073709551616*c2) (hs:s<18446744073709551616) (hb2:hi+c1+c2=b2) :
  v+18446744073709551616*b2=s+x*q+bo∧b2<18446744073709551616∧hi+c1<18446744073709551616:=by
 have h3:x*q≤18446744073709551615*18446744073709551615:=Nat.mul_le_mul (by omega) (by omega)
 refine ⟨by omega,by omega,by omega⟩
end Go.Proofs.YtgcieamfidoaoaaGreatDoor
/- The mathematics of bits.Div64 for a divisor whose first bit is set: two digits to the base of 2^32. -/
namespace Go.Proofs.YtgcieamfidoaoaaGreatDoor
open Go.RowKit
structure TF (B y y1 hi u q r:Nat):Prop where
 inv:q*y1+r=hi
 top:hi*B+u<(q+1)*y
theorem G6 (B y y1 y0 hi u q r:Nat) (hy:y=y1*B+y0) (hu:u<B) (h1:0<y1) (hq:hi/y1=q) (hr:hi%y1=r):TF B y y1 hi u q r∧r<y1:=by
 have hlt:r<y1:=by rw [← hr];exact Nat.mod_lt _ h1
 have hinv:q*y1+r=hi:=by rw [← hq,← hr,Nat.mul_comm];exact Nat.div_add_mod _ _
 refine ⟨⟨hinv,?_⟩,hlt⟩
 have h2:(hi+1)*B≤(q+1)*y1*B:=Nat.mul_le_mul_right B (by rw [Nat.add_mul,Nat.one_mul];omega)
 have h3:(q+1)*y=(q+1)*y1*B+(q+1)*y0:=by rw [hy,Nat.mul_add,Nat.mul_assoc]
 rw [Nat.add_mul,Nat.one_mul] at h2
 omega
theorem LJ (B y y1 y0 hi u q r:Nat) (hy:y=y1*B+y0) (hq:q*y1+r=hi):q*y≤hi*B+u↔q*y0≤B*r+u:=by
 have h1:q*y=q*y1*B+q*y0:=by rw [hy,Nat.mul_add,Nat.mul_assoc]
 have h2:hi*B=q*y1*B+B*r:=by rw [← hq,Nat.add_mul,Nat.mul_comm r B]
 omega
theorem LK (B y y1 y0 hi u q r:Nat) (hy:y=y1*B+y0) (hu:u<B) (hh:hi<y) (h:TF B y y1 hi u q r) (hc:B≤q∨B*r+u<q*y0) :
  1≤q∧TF B y y1 hi u (q-1) (r+y1):=by
 have h1:hi*B+u<q*y:=by
  rcases hc with hc | hc
  · have h2:(hi+1)*B≤y*B:=Nat.mul_le_mul_right B hh
    have h3:B*y≤q*y:=Nat.mul_le_mul_right y hc
    rw [Nat.add_mul,Nat.one_mul] at h2
    rw [Nat.mul_comm B y] at h3
    omega
  · exact Nat.lt_of_not_le fun hle=>by
     have:=(LJ B y y1 y0 hi u q r hy h.inv).1 hle
     omega
 have hq:1≤q:=by
  rcases Nat.eq_zero_or_pos q with h0 | h0
  · rw [h0,Nat.zero_mul] at h1;omega
  · exact h0
 refine ⟨hq,?_⟩
 obtain ⟨p,rfl⟩:∃ p,q=p+1:=⟨q-1,by omega⟩
 refine ⟨?_,by rw [Nat.add_sub_cancel];exact h1⟩
 have:=h.inv
 rw [Nat.add_sub_cancel]
 rw [Nat.add_mul,Nat.one_mul] at this
 omega
theorem XG (B y y1 y0 hi u q r:Nat) (hy:y=y1*B+y0) (h0:y0<B) (hh:hi<y) (h:TF B y y1 hi u q r) (hc:q<B∧q*y0≤B*r+u∨B≤r) :
  q<B∧q*y≤hi*B+u∧hi*B+u<(q+1)*y:=by
 have hinv:=h.inv
 have hqB:q<B:=by
  rcases hc with hc | hc
  · exact hc.1
  · refine Nat.lt_of_not_le fun hle=>?_
    have h2:B*y1≤q*y1:=Nat.mul_le_mul_right y1 hle
    rw [Nat.mul_comm B y1] at h2
    omega
 refine ⟨hqB,(LJ B y y1 y0 hi u q r hy hinv).2 ?_,h.top⟩
 rcases hc with hc | hc
 · exact hc.2
 · have h2:q*y0≤B*B:=Nat.mul_le_mul (by omega) (by omega)
   have h3:B*B≤B*r:=Nat.mul_le_mul_left B hc
   omega
theorem TG (B y hi u1 u0 q1 q0 m r:Nat) (h1:q1*y+m=hi*B+u1) (h0:q0*y+r=m*B+u0):(q1*B+q0)*y+r=hi*(B*B)+(u1*B+u0):=by
 have h2:(q1*y+m)*B=(hi*B+u1)*B:=by rw [h1]
 rw [Nat.add_mul,Nat.add_mul,Nat.mul_assoc hi B B] at h2
 rw [Nat.add_mul,Nat.mul_assoc q1 B y,Nat.mul_comm B y,← Nat.mul_assoc q1 y B]
 omega
theorem TH (B y hi u q m:Nat) (hm:q*y+m=hi*B+u) (hlt:m<18446744073709551616) :
  ((hi*B%18446744073709551616+u)%18446744073709551616+18446744073709551616-q*y%18446744073709551616)%18446744073709551616=m:=by
 generalize hi*B=x at *
 generalize q*y=z at *
 omega
theorem ER (y n q r:Nat) (h:q*y+r=n) (hr:r<y):n/y=q∧n%y=r:=by
 subst h
 refine ⟨?_,?_⟩
 · rw [Nat.mul_comm,Nat.mul_add_div (by omega),Nat.div_eq_of_lt hr,Nat.add_zero]
 · rw [Nat.mul_comm,Nat.mul_add_mod,Nat.mod_eq_of_lt hr]
end Go.Proofs.YtgcieamfidoaoaaGreatDoor
/- math/bits: a word whose first bit is set has no leading noughts. -/
namespace Go.Proofs.YtgcieamfidoaoaaGreatDoor
open Go.RowKit
theorem Ny (w:World) (x:Nat) (h:9223372036854775808≤x) (h2:x<18446744073709551616) :
  Calls Tryz.prog 150 #[.int .u64 x] w fun e w'=>e = .returned (.int .i64 64)∧w=w':=by
 have h32:decide ((4294967296:Int)≤(x:Nat))=true:=by rw [decide_eq_true_iff];omega
 have Wl:decide ((65536:Int)≤(x:Nat)/4294967296)=true:=by rw [decide_eq_true_iff];omega
 have G7:decide ((256:Int)≤(x:Nat)/4294967296/65536)=true:=by rw [decide_eq_true_iff];omega
 have hI:=fun w=>lT (P:=Tryz.prog) 9 Tryz.underlying9 .u8 (x/4294967296/65536/256%256) (by omega) w
 have hB:bJ (x/4294967296/65536/256%256)=8:=by
  apply Nat.le_antisymm
  · exact cZ (by omega)
  · exact mZ (by omega)
 have hv:((x/4294967296/65536/256%256:Nat):Int)=(x:Int)/4294967296/65536/256%256:=by omega
 rw [hv,hB] at hI
 clear hv hB
 go_enter Tryz.func150,Tryz.ntmps150
 generalize hT:(ByteArray.mk _:ByteArray)=T
 have wV:T=wW:=by rw [← hT];exact nW
 rw [← wV] at hI
 clear hT wV h h2
 go_wp2
 go_ret
 exact ⟨rfl,rfl⟩
theorem JU (w:World) (x:Nat) (h:9223372036854775808≤x) (h2:x<18446744073709551616) :
  Calls Tryz.prog 242 #[.int .u64 x] w fun e w'=>e = .returned (.int .i64 0)∧w=w':=by
 go_enter Tryz.func242,Tryz.ntmps242
 go_wp2_with (fail)
 refine (Ny _ x h h2).mono ?_
 rintro e w' ⟨rfl,rfl⟩
 go_wp2
 go_ret
 exact ⟨rfl,rfl⟩
end Go.Proofs.YtgcieamfidoaoaaGreatDoor
/- math/bits.Div64 for a divisor whose first bit is set. -/
namespace Go.Proofs.YtgcieamfidoaoaaGreatDoor
open Go.RowKit
set_option maxRecDepth 100000
theorem yR (B y y1 y0 hi u q r:Nat) (hy:y=y1*B+y0) (h0:y0<B) (hh:hi<y) (h:TF B y y1 hi u q r) (hc:q<B∧q*y0≤B*r+u∨B≤r) (d:Nat) (hd:(hi*B+u)/y=d):q=d:=by
 obtain ⟨_,h1,h2⟩:=XG B y y1 y0 hi u q r hy h0 hh h hc
 rw [← hd]
 exact (Nat.div_eq_of_lt_le h1 h2).symm
theorem G8 (hi l d y m:Nat) (h:d*y+m=hi*4294967296+l) (hm:m<18446744073709551616):∃ x1 x2 x3:Nat,
  (hi:Int)*4294967296%18446744073709551616=(x1:Int)∧IntKind.u64.wrap ((hi:Int)*4294967296)=(x1:Int)∧((x1:Int)+(l:Int))%18446744073709551616=(x2:Int)∧IntKind.u64.wrap ((x1:Int)+(l:Int))=(x2:Int) ∧
  (d:Int)*(y:Int)%18446744073709551616=(x3:Int)∧IntKind.u64.wrap ((d:Int)*(y:Int))=(x3:Int)∧((x2:Int)-(x3:Int))%18446744073709551616=(m:Int)∧IntKind.u64.wrap ((x2:Int)-(x3:Int))=(m:Int):=by
 have hw:=TH 4294967296 y hi l d m h hm
 obtain ⟨x1,hx1⟩:∃ x1,hi*4294967296%18446744073709551616=x1:=⟨_,rfl⟩
 obtain ⟨x2,hx2⟩:∃ x2,(x1+l)%18446744073709551616=x2:=⟨_,rfl⟩
 obtain ⟨x3,hx3⟩:∃ x3,d*y%18446744073709551616=x3:=⟨_,rfl⟩
 rw [hx1,hx2,hx3] at hw
 have b3:x3<18446744073709551616:=by rw [← hx3];exact Nat.mod_lt _ (by decide)
 have e1:(hi:Int)*4294967296%18446744073709551616=(x1:Int):=by clear hw hx2 hx3 h;omega
 have e2:((x1:Int)+(l:Int))%18446744073709551616=(x2:Int):=by clear hw hx1 hx3 h e1;omega
 have e3:(d:Int)*(y:Int)%18446744073709551616=(x3:Int):=by rw [← hx3,Int.natCast_emod,Int.natCast_mul];rfl
 have e4:((x2:Int)-(x3:Int))%18446744073709551616=(m:Int):=by clear hx1 hx2 hx3 h e1 e2 e3;omega
 refine ⟨x1,x2,x3,e1,?_,e2,?_,e3,?_,e4,?_⟩<;>rw [IntKind.wrap_u64]<;>assumption
theorem Ec (m y1 e s:Nat) (he:m/y1=e) (hs:m%y1=s) (hm:m<18446744073709551616):∃ p:Nat,
  (m:Int).tdiv (y1:Int)=(e:Int)∧(m:Int)/(y1:Int)=(e:Int)∧IntKind.u64.wrap (e:Int)=(e:Int)∧(e:Int)%18446744073709551616=(e:Int) ∧
  (e:Int)*(y1:Int)=(p:Int)∧IntKind.u64.wrap (p:Int)=(p:Int)∧(p:Int)%18446744073709551616=(p:Int)∧(m:Int)-(p:Int)=(s:Int)∧IntKind.u64.wrap (s:Int)=(s:Int)∧(s:Int)%18446744073709551616=(s:Int):=by
 have be:e≤m:=by rw [← he];exact Nat.div_le_self _ _
 have h1:(m:Int)/(y1:Int)=(e:Int):=by rw [← he,Int.natCast_ediv]
 have h0:(m:Int).tdiv (y1:Int)=(e:Int):=by rw [Int.tdiv_eq_ediv_of_nonneg (by omega)];exact h1
 have hm2:e*y1+s=m:=by rw [← he,← hs,Nat.mul_comm];exact Nat.div_add_mod _ _
 obtain ⟨p,hp⟩:∃ p,e*y1=p:=⟨_,rfl⟩
 rw [hp] at hm2
 have h2:(e:Int)*(y1:Int)=(p:Int):=by rw [← hp,Int.natCast_mul]
 clear hp he hs
 have h3:IntKind.u64.wrap (e:Int)=(e:Int):=by rw [IntKind.wrap_u64];omega
 have h4:IntKind.u64.wrap (p:Int)=(p:Int):=by rw [IntKind.wrap_u64];omega
 have h5:IntKind.u64.wrap (s:Int)=(s:Int):=by rw [IntKind.wrap_u64];omega
 exact ⟨p,h0,h1,h3,by omega,h2,h4,by omega,by omega,h5,by omega⟩
theorem Nz (d1 d0 q:Nat) (h:d1*4294967296+d0=q) (hq:q<18446744073709551616):∃ x7:Nat,
  (d1:Int)*4294967296=(x7:Int)∧IntKind.u64.wrap (x7:Int)=(x7:Int)∧(x7:Int)%18446744073709551616=(x7:Int)∧(x7:Int)+(d0:Int)=(q:Int)∧IntKind.u64.wrap (q:Int)=(q:Int)∧(q:Int)%18446744073709551616=(q:Int):=by
 obtain ⟨x7,hx7⟩:∃ x7,d1*4294967296=x7:=⟨_,rfl⟩
 refine ⟨x7,by omega,by rw [IntKind.wrap_u64];omega,by omega,by omega,by rw [IntKind.wrap_u64];omega,by omega⟩
theorem Pz (hi lo y l1 l0 d1 d0 m k q r:Nat) (hl1:lo/4294967296=l1) (hl0:lo%4294967296=l0) (hd:d1*y+m=hi*4294967296+l1) (hk:d0*y+k=m*4294967296+l0) (hky:k<y) (hh:hi<y) (hlo:lo<18446744073709551616)
  (hq:(hi*18446744073709551616+lo)/y=q) (hr:(hi*18446744073709551616+lo)%y=r):d1*4294967296+d0=q∧q<18446744073709551616∧r=k:=by
 have hb:=TG 4294967296 y hi l1 l0 d1 d0 m k hd hk
 rw [show hi*(4294967296*4294967296)+(l1*4294967296+l0)=hi*18446744073709551616+lo by omega] at hb
 have h:=ER y _ _ k hb hky
 rw [hq,hr] at h
 refine ⟨h.1.symm,?_,h.2⟩
 rw [← hq]
 exact Nat.div_lt_of_lt_mul (by have:=Nat.mul_le_mul_right 18446744073709551616 (show hi+1≤y from hh);omega)
theorem G9 (w:World) (hi lo y q r:Nat) (hy:9223372036854775808≤y) (hy2:y<18446744073709551616) (hl:lo<18446744073709551616) (hh:hi<y)
  (hq:(hi*18446744073709551616+lo)/y=q) (hr:(hi*18446744073709551616+lo)%y=r) :
  Calls Tryz.prog 230 #[.int .u64 hi,.int .u64 lo,.int .u64 y] w fun e w'=>e = .returned (.tuple #[.int .u64 q,.int .u64 r])∧Ext w w':=by
 have hy0:((y:Int)==0)=false:=by rw [beq_eq_false_iff_ne];omega
 have adN:¬ ((y:Int)=0):=by omega
 have hyh:decide ((y:Int)≤(hi:Int))=false:=by rw [decide_eq_false_iff_not];omega
 by_cases h0:hi=0
 · subst h0
   rw [Nat.zero_mul,Nat.zero_add] at hq hr
   have fq:(lo:Int)/(y:Int)=(q:Int):=by rw [← hq,Int.natCast_ediv]
   have fr:(lo:Int)%(y:Int)=(r:Int):=by rw [← hr,Int.natCast_emod]
   have fq2:(lo:Int).tdiv (y:Int)=(q:Int):=by rw [Int.tdiv_eq_ediv_of_nonneg (by omega)];exact fq
   have fr2:(lo:Int).tmod (y:Int)=(r:Int):=by rw [Int.tmod_eq_emod_of_nonneg (by omega)];exact fr
   have bq:q≤lo:=by rw [← hq];exact Nat.div_le_self _ _
   have br:r<y:=by rw [← hr];exact Nat.mod_lt _ (by omega)
   have wq:IntKind.u64.wrap (q:Int)=(q:Int):=by rw [IntKind.wrap_u64];omega
   have wr:IntKind.u64.wrap (r:Int)=(r:Int):=by rw [IntKind.wrap_u64];omega
   have mq:(q:Int)%18446744073709551616=(q:Int):=by omega
   have mr:(r:Int)%18446744073709551616=(r:Int):=by omega
   clear hq hr bq br
   go_enter Tryz.func230,Tryz.ntmps230
   go_wp2_with (go_region)
   all_goals (go_ret2)
   all_goals exact ⟨rfl,(Ext.refl w).drew⟩
 · have hh0 : ((hi:Int)==0)=false:=by rw [beq_eq_false_iff_ne];omega
   obtain ⟨y1,hy1⟩:∃ y1,y/4294967296=y1:=⟨_,rfl⟩
   obtain ⟨y0,aai⟩:∃ y0,y%4294967296=y0:=⟨_,rfl⟩
   obtain ⟨l1,hl1⟩:∃ l1,lo/4294967296=l1:=⟨_,rfl⟩
   obtain ⟨l0,hl0⟩:∃ l0,lo%4294967296=l0:=⟨_,rfl⟩
   have fy1:(y:Int)/4294967296=(y1:Int):=by omega
   have fl1:(lo:Int)/4294967296=(l1:Int):=by omega
   have fy0:bits .and .u64 (y:Int) 4294967295=(y0:Int):=by
    rw [show (4294967295:Int)=((4294967295:Nat):Int) from rfl,u64_and_nat _ _ (by omega) (by decide),show (4294967295:Nat)=2^32-1 from rfl,Nat.and_two_pow_sub_one_eq_mod,show (2:Nat)^32=4294967296 from rfl,aai]
   have fl0:bits .and .u64 (lo:Int) 4294967295=(l0:Int):=by
    rw [show (4294967295:Int)=((4294967295:Nat):Int) from rfl,u64_and_nat _ _ (by omega) (by decide),show (4294967295:Nat)=2^32-1 from rfl,Nat.and_two_pow_sub_one_eq_mod,show (2:Nat)^32=4294967296 from rfl,hl0]
   have fn:bits .or .u64 (hi:Int) ((lo:Int)/18446744073709551616)=(hi:Int):=by
    rw [show (lo:Int)/18446744073709551616=((0:Nat):Int) by omega,u64_or_nat _ _ (by omega) (by decide),Nat.or_zero]
   obtain ⟨q1,hq1⟩:∃ q1,hi/y1=q1:=⟨_,rfl⟩
   obtain ⟨r1,hr1⟩:∃ r1,hi%y1=r1:=⟨_,rfl⟩
   obtain ⟨p1,fq1,adO,wq1,mq1,fp1,wp1,mp1,fr1,wr1,mr1⟩:=Ec hi y1 q1 r1 hq1 hr1 (by omega)
   have y1n:¬ ((y1:Int)=0):=by omega
   have yw:IntKind.u64.wrap (y:Int)=(y:Int):=by rw [IntKind.wrap_u64];omega
   have hiw:IntKind.u64.wrap (hi:Int)=(hi:Int):=by rw [IntKind.wrap_u64];omega
   have low:IntKind.u64.wrap (lo:Int)=(lo:Int):=by rw [IntKind.wrap_u64];omega
   have yw2:(y:Int)%18446744073709551616=(y:Int):=by omega
   have adP:(hi:Int)%18446744073709551616=(hi:Int):=by omega
   have adQ:(lo:Int)%18446744073709551616=(lo:Int):=by omega
   have HY:Hid (y=y1*4294967296+y0):=by show y=y1*4294967296+y0;omega
   have wX:y1<4294967296:=by omega
   have vX:l1<4294967296:=by omega
   have vY:l0<4294967296:=by omega
   have wY:y0<4294967296:=by omega
   have uW:0<y1:=by omega
   have wZ:q1<18446744073709551616:=by rw [← hq1];exact Nat.lt_of_le_of_lt (Nat.div_le_self _ _) (by omega)
   have HDA:Hid (TF 4294967296 y y1 hi l1 q1 r1∧r1<y1):=G6 4294967296 y y1 y0 hi l1 q1 r1 HY.out vX uW hq1 hr1
   obtain ⟨d1,hd1⟩:∃ d1,(hi*4294967296+l1)/y=d1:=⟨_,rfl⟩
   obtain ⟨m,hmm⟩:∃ m,(hi*4294967296+l1)%y=m:=⟨_,rfl⟩
   have AD:=Lib.hid hd1
   have GU:m<y:=by rw [← hmm];exact Nat.mod_lt _ (by omega)
   have TK:m<18446744073709551616:=by omega
   have Wm:d1*y+m=hi*4294967296+l1:=by rw [← hd1,← hmm,Nat.mul_comm];exact Nat.div_add_mod _ _
   obtain ⟨x1,x2,x3,GA0⟩:=G8 hi l1 d1 y m Wm TK
   have GA:=Lib.hid GA0
   obtain ⟨e1,he1⟩:∃ e1,m/y1=e1:=⟨_,rfl⟩
   obtain ⟨s1,hs1⟩:∃ s1,m%y1=s1:=⟨_,rfl⟩
   have xe:e1<18446744073709551616:=by rw [← he1];exact Nat.lt_of_le_of_lt (Nat.div_le_self _ _) TK
   obtain ⟨p2,GB0⟩:=Ec m y1 e1 s1 he1 hs1 TK
   have GB:=Lib.hid GB0
   have HDB:Hid (TF 4294967296 y y1 m l0 e1 s1∧s1<y1):=G6 4294967296 y y1 y0 m l0 e1 s1 HY.out vY uW he1 hs1
   obtain ⟨d0,hd0⟩:∃ d0,(m*4294967296+l0)/y=d0:=⟨_,rfl⟩
   obtain ⟨k,hkk⟩:∃ k,(m*4294967296+l0)%y=k:=⟨_,rfl⟩
   have BD:=Lib.hid hd0
   have hky:k<y:=by rw [← hkk];exact Nat.mod_lt _ (by omega)
   have hdk:d0*y+k=m*4294967296+l0:=by rw [← hd0,← hkk,Nat.mul_comm];exact Nat.div_add_mod _ _
   obtain ⟨x4,x5,x6,GC0⟩:=G8 m l0 d0 y k hdk (by omega)
   have GC:=Lib.hid GC0
   obtain ⟨htq,htb,hkr⟩:=Pz hi lo y l1 l0 d1 d0 m k q r hl1 hl0 Wm hdk hky hh hl hq hr
   obtain ⟨x7,GD0⟩:=Nz d1 d0 q htq htb
   have GD:=Lib.hid GD0
   subst hkr
   have ZR:=Lib.hid (And.intro hy (And.intro hy2 (And.intro hh (And.intro GU (And.intro wX (And.intro vX (And.intro vY (And.intro wY uW))))))))
   have HN1:=Lib.hid (And.intro wZ xe)
   clear GA0 GB0 GC0 GD0 hq hr htq htb hdk Wm hd1 hmm hd0 hkk he1 hs1 hq1 hr1 hy1 aai hl1 hl0 hy hy2 GU wX vX vY wY uW wZ xe hl TK hky
   go_enter Tryz.func230,Tryz.ntmps230
   go_wp2_with (fail)
   refine (JU _ y ZR.out.1 ZR.out.2.1).mono ?_
   rintro e w' ⟨rfl,rfl⟩
   go_upto_block 0 with (fail)
   clear yw hiw low yw2 adP adQ hh hy0 adN hyh hh0 fy1 fl1 fy0 fl0 fn fq1 adO wq1 mq1 fp1 wp1 mp1 fr1 wr1 mr1
   go_cut [15] from 67 (fun s wx=>s = .int .u64 (d1:Nat)∧wx=w)
   case first =>
    go_wp2
    go_loopw [15,16] (fun t s wr=>∃ (q r:Nat),t = .int .u64 (q:Nat)∧s = .int .u64 (r:Nat)∧Hid (TF 4294967296 y y1 hi l1 q r)∧r<4294967296∧q≤q1∧wr=w) (fun t _ _=>(intOf t).toNat)
    case atStart=>exact ⟨q1,r1,rfl,rfl,HDA.out.1,Nat.lt_trans HDA.out.2 ZR.out.2.2.2.2.1,Nat.le_refl _,rfl⟩
    case round =>
     obtain ⟨q,r,rfl,rfl,HO,hr,hq,rfl⟩:=hrel
     obtain ⟨hy,hy2,hh,GU,wX,vX,vY,wY,uW⟩:=ZR.out
     obtain ⟨wZ,xe⟩:=HN1.out
     have hrw:IntKind.u64.wrap (r:Int)=(r:Int):=by rw [IntKind.wrap_u64];omega
     have f1:4294967296*(r:Int)=((4294967296*r:Nat):Int):=by omega
     obtain ⟨x1,hx1⟩:∃ x1,4294967296*r=x1:=⟨_,rfl⟩
     rw [hx1] at f1
     have f2:(x1:Int)%18446744073709551616=(x1:Int):=by omega
     have f2w:IntKind.u64.wrap (x1:Int)=(x1:Int):=by rw [IntKind.wrap_u64];omega
     obtain ⟨x2,hx2⟩:∃ x2,x1+l1=x2:=⟨_,rfl⟩
     have f3:(x1:Int)+(l1:Int)=(x2:Int):=by omega
     have f4:(x2:Int)%18446744073709551616=(x2:Int):=by omega
     have f4w:IntKind.u64.wrap (x2:Int)=(x2:Int):=by rw [IntKind.wrap_u64];omega
     by_cases hc:4294967296≤q∨4294967296*r+l1<q*y0
     · have hdn:=LK 4294967296 y y1 y0 hi l1 q r HY.out (by omega) hh HO.out hc
       obtain ⟨p,hp⟩:∃ p,q-1=p:=⟨_,rfl⟩
       rw [hp] at hdn
       obtain ⟨r2,hr2⟩:∃ r2,r+y1=r2:=⟨_,rfl⟩
       rw [hr2] at hdn
       have hqp:=hdn.1
       have HN:=Lib.hid hdn.2
       have g1:(q:Int)-1=(p:Int):=by omega
       have g2:(p:Int)%18446744073709551616=(p:Int):=by omega
       have g2w:IntKind.u64.wrap (p:Int)=(p:Int):=by rw [IntKind.wrap_u64];omega
       have g3:(r:Int)+(y1:Int)=(r2:Int):=by omega
       have g4:(r2:Int)%18446744073709551616=(r2:Int):=by omega
       have g4w:IntKind.u64.wrap (r2:Int)=(r2:Int):=by rw [IntKind.wrap_u64];omega
       have HC2:Hid (4294967296≤q∨q<4294967296∧x2<q*y0):=by
        rcases Nat.lt_or_ge q 4294967296 with h | h
        · rcases hc with hc | hc
          · omega
          · exact .inr ⟨h,by omega⟩
        · exact .inl h
       have HR2:Hid (p<q):=by show p<q;omega
       have hpq:p≤q1:=by omega
       clear hc hdn hp hr2 hx1 hx2 hqp HO hr hq
       rcases HC2.out with hc | ⟨hc,hc2⟩
       · have hd:decide ((4294967296:Int)≤(q:Int))=true:=by rw [decide_eq_true_iff];omega
         clear hc
         by_cases he:4294967296≤r2
         · have hde:decide ((4294967296:Int)≤(r2:Int))=true:=by rw [decide_eq_true_iff];omega
           have HF:=Lib.hid (yR 4294967296 y y1 y0 hi l1 p r2 HY.out (by omega) hh HN.out (.inr he) d1 AD.out)
           clear he
           clear hy hy2 hh GU wX vX vY wY uW wZ xe
           go_wp2
           go_meet
           case rel=>exact ⟨by rw [HF.out],by first | rfl | trivial⟩
         · have hde:decide ((4294967296:Int)≤(r2:Int))=false:=by rw [decide_eq_false_iff_not];omega
           have he2:r2<4294967296:=by omega
           clear he
           clear hy hy2 hh GU wX vX vY wY uW wZ xe
           go_wp2
           go_roundw
           case rel=>exact ⟨p,r2,rfl,rfl,HN,he2,hpq,by first | rfl | trivial⟩
           case measure=>have:=HR2.out;simp [intOf];omega
       · have hd:decide ((4294967296:Int)≤(q:Int))=false:=by rw [decide_eq_false_iff_not];omega
         obtain ⟨z,hz⟩:∃ z,q*y0=z:=⟨_,rfl⟩
         rw [hz] at hc2
         have hzb:z<18446744073709551616:=by
          rw [← hz]
          exact Nat.lt_of_le_of_lt (Nat.mul_le_mul (show q≤4294967295 by omega) (show y0≤4294967295 by omega)) (by decide)
         have z1:(q:Int)*(y0:Int)=(z:Int):=by rw [← hz,Int.natCast_mul]
         have z2:(z:Int)%18446744073709551616=(z:Int):=by omega
         have z2w:IntKind.u64.wrap (z:Int)=(z:Int):=by rw [IntKind.wrap_u64];omega
         clear hc hz hzb
         by_cases he:4294967296≤r2
         · have hde:decide ((4294967296:Int)≤(r2:Int))=true:=by rw [decide_eq_true_iff];omega
           have HF:=Lib.hid (yR 4294967296 y y1 y0 hi l1 p r2 HY.out (by omega) hh HN.out (.inr he) d1 AD.out)
           clear he
           clear hy hy2 hh GU wX vX vY wY uW wZ xe
           go_wp2
           go_meet
           case rel=>exact ⟨by rw [HF.out],by first | rfl | trivial⟩
         · have hde:decide ((4294967296:Int)≤(r2:Int))=false:=by rw [decide_eq_false_iff_not];omega
           have he2:r2<4294967296:=by omega
           clear he
           clear hy hy2 hh GU wX vX vY wY uW wZ xe
           go_wp2
           go_roundw
           case rel=>exact ⟨p,r2,rfl,rfl,HN,he2,hpq,by first | rfl | trivial⟩
           case measure=>have:=HR2.out;simp [intOf];omega
     · have hq2:q<4294967296:=by omega
       have hq3:q*y0≤4294967296*r+l1:=by omega
       have HF:=Lib.hid (yR 4294967296 y y1 y0 hi l1 q r HY.out (by omega) hh HO.out (.inl ⟨hq2,hq3⟩) d1 AD.out)
       have hd:decide ((4294967296:Int)≤(q:Int))=false:=by rw [decide_eq_false_iff_not];omega
       obtain ⟨z,hz⟩:∃ z,q*y0=z:=⟨_,rfl⟩
       rw [hz] at hq3 hc
       have z1:(q:Int)*(y0:Int)=(z:Int):=by rw [← hz,Int.natCast_mul]
       have z2:(z:Int)%18446744073709551616=(z:Int):=by omega
       have z2w:IntKind.u64.wrap (z:Int)=(z:Int):=by rw [IntKind.wrap_u64];omega
       have hn2:¬ x2<z:=by omega
       clear hc hq2 hq3 hz hx1 hx2 HO hr hq
       clear hy hy2 hh GU wX vX vY wY uW wZ xe
       go_wp2
       go_meet
       case rel=>exact ⟨by rw [HF.out],by first | rfl | trivial⟩
   case rest =>
    obtain ⟨rfl,hwc⟩:=hcut;subst wc
    obtain ⟨A1,A1w,A2,A2w,A3,A3w,A4,A4w⟩:=GA.out
    obtain ⟨B1,B1b,B1w,B1m,B2,B2w,B2m,B3,B3w,B3m⟩:=GB.out
    go_upto_block 2 with (fail)
    clear A1 A1w A2 A2w A3 A3w A4 A4w B1 B1b B1w B1m B2 B2w B2m B3 B3w B3m y1n GA GB
    go_cut [18] from 102 (fun s wx=>s = .int .u64 (d0:Nat)∧wx=w)
    case first =>
     go_wp2
     go_loopw [18,16] (fun t s wr=>∃ (q r:Nat),t = .int .u64 (q:Nat)∧s = .int .u64 (r:Nat)∧Hid (TF 4294967296 y y1 m l0 q r)∧r<4294967296∧q≤e1∧wr=w) (fun t _ _=>(intOf t).toNat)
     case atStart=>exact ⟨e1,s1,rfl,rfl,HDB.out.1,Nat.lt_trans HDB.out.2 ZR.out.2.2.2.2.1,Nat.le_refl _,rfl⟩
     case round =>
      obtain ⟨q,r,rfl,rfl,HO,hr,hq,rfl⟩:=hrel
      obtain ⟨hy,hy2,hh,GU,wX,vX,vY,wY,uW⟩:=ZR.out
      obtain ⟨wZ,xe⟩:=HN1.out
      have hrw:IntKind.u64.wrap (r:Int)=(r:Int):=by rw [IntKind.wrap_u64];omega
      have f1:4294967296*(r:Int)=((4294967296*r:Nat):Int):=by omega
      obtain ⟨x1,hx1⟩:∃ x1,4294967296*r=x1:=⟨_,rfl⟩
      rw [hx1] at f1
      have f2:(x1:Int)%18446744073709551616=(x1:Int):=by omega
      have f2w:IntKind.u64.wrap (x1:Int)=(x1:Int):=by rw [IntKind.wrap_u64];omega
      obtain ⟨x2,hx2⟩:∃ x2,x1+l0=x2:=⟨_,rfl⟩
      have f3:(x1:Int)+(l0:Int)=(x2:Int):=by omega
      have f4:(x2:Int)%18446744073709551616=(x2:Int):=by omega
      have f4w:IntKind.u64.wrap (x2:Int)=(x2:Int):=by rw [IntKind.wrap_u64];omega
      by_cases hc:4294967296≤q∨4294967296*r+l0<q*y0
      · have hdn:=LK 4294967296 y y1 y0 m l0 q r HY.out (by omega) GU HO.out hc
        obtain ⟨p,hp⟩:∃ p,q-1=p:=⟨_,rfl⟩
        rw [hp] at hdn
        obtain ⟨r2,hr2⟩:∃ r2,r+y1=r2:=⟨_,rfl⟩
        rw [hr2] at hdn
        have hqp:=hdn.1
        have HN:=Lib.hid hdn.2
        have g1:(q:Int)-1=(p:Int):=by omega
        have g2:(p:Int)%18446744073709551616=(p:Int):=by omega
        have g2w:IntKind.u64.wrap (p:Int)=(p:Int):=by rw [IntKind.wrap_u64];omega
        have g3:(r:Int)+(y1:Int)=(r2:Int):=by omega
        have g4:(r2:Int)%18446744073709551616=(r2:Int):=by omega
        have g4w:IntKind.u64.wrap (r2:Int)=(r2:Int):=by rw [IntKind.wrap_u64];omega
        have HC2:Hid (4294967296≤q∨q<4294967296∧x2<q*y0):=by
         rcases Nat.lt_or_ge q 4294967296 with h | h
         · rcases hc with hc | hc
           · omega
           · exact .inr ⟨h,by omega⟩
         · exact .inl h
        have HR2:Hid (p<q):=by show p<q;omega
        have hpq:p≤e1:=by omega
        clear hc hdn hp hr2 hx1 hx2 hqp HO hr hq
        rcases HC2.out with hc | ⟨hc,hc2⟩
        · have hd:decide ((4294967296:Int)≤(q:Int))=true:=by rw [decide_eq_true_iff];omega
          clear hc
          by_cases he:4294967296≤r2
          · have hde:decide ((4294967296:Int)≤(r2:Int))=true:=by rw [decide_eq_true_iff];omega
            have HF:=Lib.hid (yR 4294967296 y y1 y0 m l0 p r2 HY.out (by omega) GU HN.out (.inr he) d0 BD.out)
            clear he
            clear hy hy2 hh GU wX vX vY wY uW wZ xe
            go_wp2
            go_meet
            case rel=>exact ⟨by rw [HF.out],by first | rfl | trivial⟩
          · have hde:decide ((4294967296:Int)≤(r2:Int))=false:=by rw [decide_eq_false_iff_not];omega
            have he2:r2<4294967296:=by omega
            clear he
            clear hy hy2 hh GU wX vX vY wY uW wZ xe
            go_wp2
            go_roundw
            case rel=>exact ⟨p,r2,rfl,rfl,HN,he2,hpq,by first | rfl | trivial⟩
            case measure=>have:=HR2.out;simp [intOf];omega
        · have hd:decide ((4294967296:Int)≤(q:Int))=false:=by rw [decide_eq_false_iff_not];omega
          obtain ⟨z,hz⟩:∃ z,q*y0=z:=⟨_,rfl⟩
          rw [hz] at hc2
          have hzb:z<18446744073709551616:=by
           rw [← hz]
           exact Nat.lt_of_le_of_lt (Nat.mul_le_mul (show q≤4294967295 by omega) (show y0≤4294967295 by omega)) (by decide)
          have z1:(q:Int)*(y0:Int)=(z:Int):=by rw [← hz,Int.natCast_mul]
          have z2:(z:Int)%18446744073709551616=(z:Int):=by omega
          have z2w:IntKind.u64.wrap (z:Int)=(z:Int):=by rw [IntKind.wrap_u64];omega
          clear hc hz hzb
          by_cases he:4294967296≤r2
          · have hde:decide ((4294967296:Int)≤(r2:Int))=true:=by rw [decide_eq_true_iff];omega
            have HF:=Lib.hid (yR 4294967296 y y1 y0 m l0 p r2 HY.out (by omega) GU HN.out (.inr he) d0 BD.out)
            clear he
            clear hy hy2 hh GU wX vX vY wY uW wZ xe
            go_wp2
            go_meet
            case rel=>exact ⟨by rw [HF.out],by first | rfl | trivial⟩
          · have hde:decide ((4294967296:Int)≤(r2:Int))=false:=by rw [decide_eq_false_iff_not];omega
            have he2:r2<4294967296:=by omega
            clear he
            clear hy hy2 hh GU wX vX vY wY uW wZ xe
            go_wp2
            go_roundw
            case rel=>exact ⟨p,r2,rfl,rfl,HN,he2,hpq,by first | rfl | trivial⟩
            case measure=>have:=HR2.out;simp [intOf];omega
      · have hq2:q<4294967296:=by omega
        have hq3:q*y0≤4294967296*r+l0:=by omega
        have HF:=Lib.hid (yR 4294967296 y y1 y0 m l0 q r HY.out (by omega) GU HO.out (.inl ⟨hq2,hq3⟩) d0 BD.out)
        have hd:decide ((4294967296:Int)≤(q:Int))=false:=by rw [decide_eq_false_iff_not];omega
        obtain ⟨z,hz⟩:∃ z,q*y0=z:=⟨_,rfl⟩
        rw [hz] at hq3 hc
        have z1:(q:Int)*(y0:Int)=(z:Int):=by rw [← hz,Int.natCast_mul]
        have z2:(z:Int)%18446744073709551616=(z:Int):=by omega
        have z2w:IntKind.u64.wrap (z:Int)=(z:Int):=by rw [IntKind.wrap_u64];omega
        have hn2:¬ x2<z:=by omega
        clear hc hq2 hq3 hz hx1 hx2 HO hr hq
        clear hy hy2 hh GU wX vX vY wY uW wZ xe
        go_wp2
        go_meet
        case rel=>exact ⟨by rw [HF.out],by first | rfl | trivial⟩
    case rest =>
     obtain ⟨rfl,hwc⟩:=hcut;subst wc
     obtain ⟨C1,C1w,C2,C2w,C3,C3w,C4,C4w⟩:=GC.out
     obtain ⟨D2,D2w,D2m,D3,D3w,D3m⟩:=GD.out
     go_wp2
     go_ret2
     exact ⟨rfl,Ext.refl _⟩
end Go.Proofs.YtgcieamfidoaoaaGreatDoor
/- The mathematics of reciprocals by steps, of the quotient by a reciprocal, and of the document's division bit by bit. -/
namespace Go.Proofs.YtgcieamfidoaoaaGreatDoor
open Go.RowKit
theorem XH (A b bit Q r:Nat) (hQ:A/b=Q) (hr:A%b=r) (hlt:2*r+bit<b):(2*A+bit)/b=2*Q∧(2*A+bit)%b=2*r+bit:=by
 have h:=Nat.div_add_mod A b
 rw [hQ,hr] at h
 have h1:2*A+bit=(2*r+bit)+b*(2*Q):=by
  rw [Nat.mul_left_comm b 2 Q];omega
 rw [h1]
 refine ⟨?_,?_⟩
 · rw [Nat.add_mul_div_left _ _ (by omega),Nat.div_eq_of_lt hlt,Nat.zero_add]
 · rw [Nat.add_mul_mod_self_left,Nat.mod_eq_of_lt hlt]
theorem TJ (A b bit Q r:Nat) (hb:0<b) (hbit:bit≤1) (hQ:A/b=Q) (hr:A%b=r) (hge:b≤2*r+bit):(2*A+bit)/b=2*Q+1∧(2*A+bit)%b=2*r+bit-b:=by
 have h:=Nat.div_add_mod A b
 have hrl:r<b:=by rw [← hr];exact Nat.mod_lt _ hb
 rw [hQ,hr] at h
 have h1:2*A+bit=(2*r+bit-b)+b*(2*Q+1):=by
  rw [Nat.mul_add,Nat.mul_left_comm b 2 Q];omega
 rw [h1]
 have hlt:2*r+bit-b<b:=by omega
 refine ⟨?_,?_⟩
 · rw [Nat.add_mul_div_left _ _ hb,Nat.div_eq_of_lt hlt,Nat.zero_add]
 · rw [Nat.add_mul_mod_self_left,Nat.mod_eq_of_lt hlt]
end Go.Proofs.YtgcieamfidoaoaaGreatDoor
/- The mathematics of a quotient word by word: a part of a row, the product that is taken off, the digit that was one too great, the words of limbs. -/
namespace Go.Proofs.YtgcieamfidoaoaaGreatDoor
open Go.RowKit
def Sg (pre s post:List Nat):List Nat:=pre++(s++post)
theorem He (pre s post:List Nat) (off i:Nat) (h0:pre.length=off) (h:i<s.length):lb (Sg pre s post) (off+i)=lb s i:=by
 unfold Sg
 rw [yS,if_neg (by omega),yS,if_pos (by omega),h0,Nat.add_sub_cancel_left]
theorem Bw (pre s post:List Nat) (off i x:Nat) (h0:pre.length=off) (h:i<s.length):(Sg pre s post).set (off+i) x=Sg pre (s.set i x) post:=by
 unfold Sg
 rw [List.set_append,if_neg (by omega),h0,Nat.add_sub_cancel_left,List.set_append,if_pos h]
theorem JV (pre s post:List Nat):(Sg pre s post).length=pre.length+s.length+post.length:=by
 unfold Sg;rw [List.length_append,List.length_append];omega
theorem PD (pre s post:List Nat):bU (Sg pre s post)=bU pre+BB^pre.length*(bU s+BB^s.length*bU post):=by
 unfold Sg;rw [mJ,mJ]
theorem PE (o:List Nat) (j k:Nat):o=Sg (o.take j) ((o.drop j).take k) ((o.drop j).drop k):=by
 unfold Sg;rw [List.take_append_drop,List.take_append_drop]
structure Wn (n A T i:Nat) (s0 s:List Nat) (bo:Nat):Prop where
 len:s.length=n
 lt:∀ x∈s,x<18446744073709551616
 b1:bo<18446744073709551616
 val:bU s+T=A+BB^i*bo
 out:∀ m,i≤m→lb s m=lb s0 m
theorem Wn.step {n A T i:Nat} {s0 s:List Nat} {bo:Nat} (h:Wn n A T i s0 s bo) (hi:i<n) (t x b2:Nat) (hd:lb s i+BB*b2=x+t+bo) (hx:x<18446744073709551616) (hb:b2<18446744073709551616) :
  Wn n A (T+BB^i*t) (i+1) s0 (s.set i x) b2:=by
 refine ⟨by simp [h.len],iQ h.lt hx,hb,?_,fun m hm=>?_⟩
 · rw [Nat.pow_succ]
   exact Ed _ _ _ _ _ _ _ _ _ _ (nX s i x (by rw [h.len];exact hi)) h.val hd
 · rw [dA _ (by omega)];exact h.out m (by omega)
theorem qP (s:List Nat) (n:Nat) (hl:s.length=n+1) (hx:∀ x∈s,x<18446744073709551616):bU s<BB^n*(lb s n+1):=by
 have h1:=ji s n (by omega)
 rw [List.take_of_length_le (by omega)] at h1
 have h2:=JW (s.take n) (fun x h=>hx x (List.mem_of_mem_take h))
 rw [List.length_take,Nat.min_eq_left (by omega)] at h2
 rw [Nat.mul_add,Nat.mul_one]
 omega
theorem XI (n T:Nat) (s0 s:List Nat) (bo t x:Nat) (h:Wn (n+1) (bU s0) T n s0 s bo) (ht:lb s0 n=t) (hx:x+bo=t):bU (s.set n x)+T=bU s0∧∀ y∈s.set n x,y<18446744073709551616:=by
 have hs:=nX s n x (by rw [h.len];omega)
 have hb:t<18446744073709551616:=by rw [← ht,← h.out n (Nat.le_refl _)];exact fQ (by decide) h.lt n
 rw [h.out n (Nat.le_refl _),ht] at hs
 have hv:=h.val
 have h1:BB^n*x+BB^n*bo=BB^n*t:=by rw [← Nat.mul_add,hx]
 exact ⟨by omega,iQ h.lt (by omega)⟩
theorem PG (n T:Nat) (s0 s:List Nat) (bo t x:Nat) (h:Wn (n+1) (bU s0) T n s0 s bo) (ht:lb s0 n=t) (hx:x+bo=t+BB) (hb:t<bo):bU (s.set n x)+T=bU s0+BB^n*BB∧∀ y∈s.set n x,y<18446744073709551616:=by
 have hs:=nX s n x (by rw [h.len];omega)
 rw [h.out n (Nat.le_refl _),ht] at hs
 have hv:=h.val
 have h1:BB^n*x+BB^n*bo=BB^n*t+BB^n*BB:=by rw [← Nat.mul_add,hx,Nat.mul_add]
 exact ⟨by omega,iQ h.lt (by unfold BB at hx;omega)⟩
theorem PI (n T V q1 A S1:Nat) (s2:List Nat) (c:Nat) (hS1:S1+T=A+BB^n*BB) (hT:T=q1*V+V) (hA:q1*V≤A) (h:TL (n+1) 0 (S1+V) n s2 c) :
  (lb s2 n+c)=BB∧bU (s2.set n 0)+q1*V=A:=by
 have hv:=h.val
 rw [Nat.zero_add] at hv
 have hc:=h.Bz
 have hl:=qP s2 n h.len h.lt
 have hw:lb s2 n<BB:=fQ (by decide) h.lt n
 have h1:BB^n*BB<BB^n*(lb s2 n+1+c):=by
  rw [Nat.mul_add _ _ c]
  omega
 have h2:BB<lb s2 n+1+c:=Nat.lt_of_mul_lt_mul_left h1
 have h3:lb s2 n+c=BB:=by omega
 refine ⟨h3,?_⟩
 have hs:=nX s2 n 0 (by rw [h.len];omega)
 have h4:BB^n*lb s2 n+BB^n*c=BB^n*BB:=by rw [← Nat.mul_add,h3]
 rw [Nat.mul_zero] at hs
 omega
theorem Bc (s:List Nat) (k:Nat) (hl:s.length=k+1):bU s=lb s k*BB^k+bU (s.take k):=by
 have h1:=ji s k (by omega)
 rw [List.take_of_length_le (by omega)] at h1
 rw [h1,Nat.mul_comm (lb s k),Nat.add_comm]
theorem xg (s:List Nat) (k:Nat) (hl:s.length=k+2):bU s=(lb s (k+1)*BB+lb s k)*BB^k+bU (s.take k):=by
 have h0:=Bc s (k+1) (by omega)
 have h1:=ji s k (by omega)
 rw [h0,h1,Nat.pow_succ,Nat.add_mul,Nat.mul_comm (BB^k) (lb s k),Nat.mul_assoc,Nat.mul_comm BB (BB^k)]
 omega
theorem Ee (s:List Nat) (k:Nat) (hl:s.length=k+3):bU s=((lb s (k+2)*BB+lb s (k+1))*BB+lb s k)*BB^k+bU (s.take k):=by
 have h0:bU s=(lb s (k+2)*BB+lb s (k+1))*BB^(k+1)+bU (s.take (k+1)):=xg s (k+1) (by omega)
 have h1:=ji s k (by omega)
 rw [h0,h1,Nat.pow_succ,Nat.add_mul _ (lb s k),Nat.mul_comm (BB^k) (lb s k),Nat.mul_assoc _ BB (BB^k),Nat.mul_comm BB (BB^k)]
 omega
theorem sD (s:List Nat) (k:Nat) (hk:k≤s.length) (hx:∀ x∈s,x<18446744073709551616):bU (s.take k)<BB^k:=by
 have h2:=JW (s.take k) (fun x h=>hx x (List.mem_of_mem_take h))
 rwa [List.length_take,Nat.min_eq_left hk] at h2
theorem XJ (s vs:List Nat) (k:Nat) (hs:s.length=k+2) (hv:vs.length=k+1) (hx:∀ x∈vs,x<18446744073709551616) (h:bU s<BB*bU vs):lb s (k+1)≤lb vs k:=by
 have h1:=Bc s (k+1) hs
 have h2:=qP vs k hv hx
 have h3:lb s (k+1)*BB^(k+1)<(lb vs k+1)*BB^(k+1):=by
  have:BB*bU vs≤BB*(BB^k*(lb vs k+1)):=Nat.mul_le_mul_left _ (Nat.le_of_lt h2)
  have e:(lb vs k+1)*BB^(k+1)=BB*(BB^k*(lb vs k+1)):=by
   rw [Nat.pow_succ,Nat.mul_comm (lb vs k+1),Nat.mul_comm (BB^k) BB,Nat.mul_assoc]
  omega
 have:=Nat.lt_of_mul_lt_mul_right h3
 omega
structure NA (V A n m j:Nat) (o ql:List Nat):Prop where
 lo:o.length=m
 xo:∀ x∈o,x<18446744073709551616
 lq:ql.length+n=m
 xq:∀ x∈ql,x<18446744073709551616
 zero:∀ i,i<j→lb ql i=0
 sum:bU o+V*bU ql=A
 small:bU (o.drop j)<V
theorem LM {V A n m j:Nat} {o ql:List Nat} (h:NA V A n m (j+1) o ql) (hj:j+1+n≤m) (hV:V<BB^n) :
  ((o.drop j).take (n+1)).length=n+1∧bU ((o.drop j).take (n+1))<BB*V∧bU ((o.drop j).drop (n+1))=0∧(o.take j).length=j:=by
 have hl:=h.lo
 have h1:(o.drop j).length=m-j:=by simp [hl]
 have h2:o.drop j=lb o j::o.drop (j+1):=by
  rw [List.drop_eq_getElem_cons (by omega)]
  congr 1
  unfold lb;rw [List.getElem?_eq_getElem (by omega)];rfl
 have h3:bU (o.drop j)=lb o j+BB*bU (o.drop (j+1)):=by rw [h2];rfl
 have h4:lb o j<BB:=fQ (by decide) h.xo j
 have h5:bU (o.drop j)<BB*V:=by
  have:BB*(bU (o.drop (j+1))+1)≤BB*V:=Nat.mul_le_mul_left _ h.small
  rw [Nat.mul_add] at this
  omega
 have h6:=ES (o.drop j) (n+1) (by omega)
 have h7:BB*V<BB^(n+1):=by rw [Nat.pow_succ,Nat.mul_comm];exact Nat.mul_lt_mul_of_pos_right hV (by decide)
 refine ⟨by rw [List.length_take,h1];omega,by omega,?_,by rw [List.length_take];omega⟩
 rcases Nat.eq_zero_or_pos (bU ((o.drop j).drop (n+1))) with h8 | h8
 · exact h8
 · have:=Nat.mul_le_mul_left (BB^(n+1)) h8
   omega
theorem NA.step {V A n m j:Nat} {o ql:List Nat} (h:NA V A n m (j+1) o ql) (hj:j+1+n≤m) (hV:V<BB^n) (q r:Nat) (s':List Nat) (hs:s'.length=n+1) (hx:∀ x∈s',x<18446744073709551616)
  (hq:q<18446744073709551616) (Wm:q*V+r=bU ((o.drop j).take (n+1))) (hr:bU s'=r) (hrV:r<V):NA V A n m j (Sg (o.take j) s' ((o.drop j).drop (n+1))) (ql.set j q):=by
 obtain ⟨h1,h2,h3,h4⟩:=LM h hj hV
 have hl:=h.lo
 have hlq:=h.lq
 have hpost:((o.drop j).drop (n+1)).length=m-j-(n+1):=by simp only [List.length_drop,hl]
 have hset:=nX ql j q (by omega)
 rw [h.zero j (by omega),Nat.mul_zero,Nat.add_zero] at hset
 have hw:=PD (o.take j) ((o.drop j).take (n+1)) ((o.drop j).drop (n+1))
 rw [← PE,h3,Nat.mul_zero,Nat.add_zero,h4] at hw
 have hw2:=PD (o.take j) s' ((o.drop j).drop (n+1))
 rw [h3,h4,hr] at hw2
 simp only [Nat.mul_zero,Nat.add_zero] at hw2
 have hsum:=h.sum
 refine ⟨?_,?_,by simpa using h.lq,iQ h.xq hq,fun i hi=>?_,?_,?_⟩
 · rw [JV,h4,hs,hpost];omega
 · intro x hx'
   unfold Sg at hx'
   rw [List.mem_append,List.mem_append] at hx'
   rcases hx' with hx' | hx' | hx'
   · exact h.xo x (List.mem_of_mem_take hx')
   · exact hx x hx'
   · exact h.xo x (List.mem_of_mem_drop (List.mem_of_mem_drop hx'))
 · rw [dA _ (by omega)];exact h.zero i (by omega)
 · rw [hset,hw2,Nat.mul_add V]
   have e:V*(BB^j*q)=BB^j*(q*V):=by rw [Nat.mul_left_comm,Nat.mul_comm V q]
   have e2:BB^j*bU ((o.drop j).take (n+1))=BB^j*(q*V)+BB^j*r:=by rw [← Wm,Nat.mul_add]
   omega
 · have:(Sg (o.take j) s' ((o.drop j).drop (n+1))).drop j=s'++(o.drop j).drop (n+1):=by
    unfold Sg
    rw [List.drop_append,List.drop_eq_nil_of_le (by omega),h4,Nat.sub_self,List.drop_zero,List.nil_append]
   rw [this,mJ,h3,Nat.mul_zero,Nat.add_zero,hr]
   exact hrV
theorem NA.done {V A n m:Nat} {o ql:List Nat} (h:NA V A n m 0 o ql) (hV:V<BB^n) (hn:n≤m):A/V=bU ql∧bU (o.take n)=A%V:=by
 have h1:=h.small
 rw [List.drop_zero] at h1
 have hs:=h.sum
 have hd:=ER V A (bU ql) (bU o) (by rw [Nat.mul_comm];omega) h1
 refine ⟨hd.1,?_⟩
 rw [hd.2]
 have h6:=ES o n (by rw [h.lo];exact hn)
 rcases Nat.eq_zero_or_pos (bU (o.drop n)) with h8 | h8
 · rw [h8,Nat.mul_zero] at h6;omega
 · have:=Nat.mul_le_mul_left (BB^n) h8
   omega
theorem NA.start (V A n m:Nat) (o:List Nat) (k:Nat) (hk:k+n=m) (hn:0<n) (hlo:o.length=m) (hx:∀ x∈o,x<18446744073709551616) (hA:bU o=A) (hlt:A<BB^(m-1)) (hV:BB^(n-1)≤V) :
  NA V A n m k o (List.replicate k 0):=by
 refine ⟨hlo,hx,by simp;omega,by simp,fun i _=>jq _ _,by rw [yT,Nat.mul_zero,Nat.add_zero];exact hA,?_⟩
 have h6:=ES o k (by omega)
 have h7:BB^k*bU (o.drop k)<BB^k*BB^(n-1):=by
  rw [← Nat.pow_add,show k+(n-1)=m-1 by omega];omega
 exact Nat.lt_of_lt_of_le (Nat.lt_of_mul_lt_mul_left h7) hV
structure LP (xs:List Nat) (n i:Nat) (o:List Nat):Prop where
 len:o.length=n
 at_:∀ j,lb o j=lb (xs.take i) (2*j)+4294967296*lb (xs.take i) (2*j+1)
theorem LP.start (xs:List Nat) (n:Nat):LP xs n 0 (List.replicate n 0):=⟨by simp,fun j=>by rw [jq];simp [lb]⟩
theorem iI {xs:List Nat} {k j:Nat} (h:k≤j):lb (xs.take k) j=0:=oI (by rw [List.length_take];omega)
theorem LP.low {xs:List Nat} {n i:Nat} {o:List Nat} (h:LP xs n i o) (k:Nat) (hk:i=2*k) (hi:k<n) (x:Nat) (hx:lb xs i=x):lb o k=0∧LP xs n (i+1) (o.set k x):=by
 refine ⟨by rw [h.at_,iI (by omega),iI (by omega)],by simp [h.len],fun j=>?_⟩
 rw [BA _ _ _ _ (by rw [h.len];exact hi)]
 by_cases e:k=j
 · rw [if_pos e,← e,← hk,jH (by omega),iI (by omega),hx];omega
 · rw [if_neg e,h.at_]
   rcases Nat.lt_or_ge j k with g | g
   · rw [jH (by omega),jH (by omega),jH (by omega),jH (by omega)]
   · rw [iI (by omega),iI (by omega),iI (by omega),iI (by omega)]
theorem LP.high {xs:List Nat} {n i:Nat} {o:List Nat} (h:LP xs n i o) (k:Nat) (hk:i=2*k+1) (hi:k<n) (x:Nat) (hx:lb xs i=x):lb o k=lb xs (2*k)∧LP xs n (i+1) (o.set k (lb o k+4294967296*x)):=by
 have h0:lb o k=lb xs (2*k):=by rw [h.at_,jH (by omega),iI (j:=2*k+1) (by omega)];omega
 refine ⟨h0,by simp [h.len],fun j=>?_⟩
 rw [BA _ _ _ _ (by rw [h.len];exact hi)]
 by_cases e:k=j
 · rw [if_pos e,← e,h0,jH (by omega),jH (by omega),← hk,hx]
 · rw [if_neg e,h.at_]
   rcases Nat.lt_or_ge j k with g | g
   · rw [jH (by omega),jH (by omega),jH (by omega),jH (by omega)]
   · rw [iI (by omega),iI (by omega),iI (by omega),iI (by omega)]
theorem LP.done {xs:List Nat} {n i:Nat} {o:List Nat} (h:LP xs n i o) (hi:xs.length=i) (hn:(i+1)/2≤n) (hx:∀ x∈xs,x<4294967296):bU o=val xs∧∀ x∈o,x<18446744073709551616:=by
 have ht:xs.take i=xs:=by rw [← hi];exact List.take_length
 have e:o=jW xs++List.replicate (n-(i+1)/2) 0:=by
  refine vZ ?_ fun j hj=>?_
  · rw [List.length_append,oz,hi,List.length_replicate,h.len];omega
  · rw [h.at_,ht,yS]
    split
    · rw [xh]
    · rename_i g
      rw [oz,hi] at g
      rw [jq,oI (o:=xs) (by omega),oI (o:=xs) (by omega)]
 refine ⟨?_,?_⟩
 · rw [e,mJ,uE,yT,Nat.mul_zero,Nat.add_zero]
 · rw [e]
   intro x hx'
   rw [List.mem_append] at hx'
   rcases hx' with hx' | hx'
   · exact BC xs hx x hx'
   · rw [List.mem_replicate] at hx'
     omega
end Go.Proofs.YtgcieamfidoaoaaGreatDoor
