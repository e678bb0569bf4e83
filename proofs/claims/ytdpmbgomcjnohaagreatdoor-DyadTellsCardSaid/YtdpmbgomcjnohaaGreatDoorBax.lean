/- Sums, middles, order. -/
import Derived.Test.YtdpmbgomcjnohaaGreatDoorBaw
import Derived.Test.YtdpmbgomcjnohaaGreatDoorBag

namespace Go.Proofs.YtdpmbgomcjnohaaGreatDoor
open Go.RowKit 
set_option linter.all false
set_option maxRecDepth 100000
set_option maxHeartbeats 8000000
theorem U0 (w:World) (a b:Int):Calls Tryz.prog 67 #[.int .i64 a,.int .i64 b] w fun e w'=>e = .returned (.int .i64 (bZ a b))∧Pl.Ex w w':=(qU w a b).mono fun e w' ⟨he,hw⟩=>⟨he,by rw [← hw];exact Ext.refl w⟩
theorem rlt {a b c:Rat} (h:a<b) (g:b<c):a<c:=by grind
def Csg (x y:Rat) (k:Int):Prop := -1≤k∧k≤1∧(k≠0→ET x y k)
theorem FD {x y:Rat} {j k o:Int} (hx:EP x j) (hy:EP y k) (h:bZ j k=o):Csg x y o:=by
 have h1:=yj h
 obtain ⟨a1,a2,a3,a4,a5⟩:=hx
 obtain ⟨b1,b2,b3,b4,b5⟩:=hy
 refine ⟨by omega,by omega,fun h0=>?_⟩
 have hne:x≠y:=fun e=>by
  subst e
  have:j=k:=EP.uniq ⟨a1,a2,a3,a4,a5⟩ ⟨b1,b2,b3,b4,b5⟩
  omega
 have hlt:j<k→x<y:=fun hjk=>by
  rcases (show j<0∨j=0∨0<j by omega) with h | h | h
  · have h3:=a3.1 h
    rcases (show k=0∨0<k by omega) with g | g
    · rw [b4.1 g];exact h3
    · exact rlt h3 (b5.1 g)
  · rw [a4.1 h];exact b5.1 (by omega)
  · omega
 have hgt:k<j→y<x:=fun hjk=>by
  rcases (show k<0∨k=0∨0<k by omega) with h | h | h
  · have h3:=b3.1 h
    rcases (show j=0∨0<j by omega) with g | g
    · rw [a4.1 g];exact h3
    · exact rlt h3 (a5.1 g)
  · rw [b4.1 h];exact a5.1 (by omega)
  · omega
 refine ⟨by omega,by omega,⟨fun h=>hlt (by omega),fun h=>?_⟩,⟨fun h=>by omega,fun h=>absurd h hne⟩,⟨fun h=>hgt (by omega),fun h=>?_⟩⟩
 · rcases (show o<0∨0<o by omega) with g | g
   · exact g
   · exact absurd (rlt h (hgt (by omega))) Rat.lt_irrefl
 · rcases (show o<0∨0<o by omega) with g | g
   · exact absurd (rlt h (hlt (by omega))) Rat.lt_irrefl
   · exact g
theorem qO (w:World) (hg:Gt w) (va vb:Value) (x y:Rat) (L J:Nat) (lo hi:Int) (ha:Dn w va x L lo hi) (hb:Dn w vb y L lo hi) (hJ:hi-lo≤32*J) (hL:L+J+1≤20000) (hlo : -900000≤lo) (hhi:hi≤900000) (lo2 hi2:Int) (h1:lo2≤lo-1) (h2:hi+32*(L+J+1:Nat)≤hi2) (h3:lo2≤0) (h4:0≤hi2) :
  Calls Tryz.prog 26 #[va,vb] w fun e w'=>∃ u,e = .returned u∧Dn w' u (x+y) (L+J+1) lo2 hi2∧Pl.Ex w w':=by
 obtain ⟨ma,ea,Aa,ca,rfl,ua,da⟩:=ha
 have yx:=da.lo
 have yz:=da.hi
 obtain ⟨mb,eb,Ab,cb,rfl,ub,db⟩:=hb
 have Ny:=db.lo
 have Nz:=db.hi
 refine Pl.aN (n:=11) (vs:=[.agg #[.bool (decide (ma<0)),.slice Aa (limbs (Int.natAbs ma)).length ca,.int .i64 ea],.agg #[.bool (decide (mb<0)),.slice Ab (limbs (Int.natAbs mb)).length cb,.int .i64 eb]]) Tryz.func26 rfl (by kernel_rfl) (by simp) ?_
 repeat refine Pl.af ?_
 refine Pl.ah (by kernel_rfl) ?_
 refine Pl.bF (cs:=[.bool (decide (ma<0)),.slice Aa (limbs (Int.natAbs ma)).length ca,.int .i64 ea]) rfl rfl rfl rfl rfl rfl (fun Y hY=>trivial) ?_
 intro N1 w1 hE1 bT ak
 have dP:=Pl.Cb.lt ak
 have jC:=Pl.Ex.size hE1
 refine Pl.bF (cs:=[.bool (decide (mb<0)),.slice Ab (limbs (Int.natAbs mb)).length cb,.int .i64 eb]) rfl rfl rfl rfl rfl rfl (fun Y hY=>trivial) ?_
 intro N2 w2 hE2 dU aA
 have iq:=Pl.Cb.lt aA
 have jM:=Pl.Ex.size hE2
 refine Pl.bK (z:=.agg #[.bool false,.slice none 0 0,.int .i64 0]) (by kernel_rfl) rfl rfl rfl rfl (fun Y hY=>trivial) ?_
 intro N3 w3 aJ pY aY
 have yg:=Pl.Cb.lt aY
 have jX:=Pl.Ex.size aJ
 replace aY:Pl.Cb w3 N3 26 [.bool false,.slice none 0 0,.int .i64 0]:=aY
 refine Pl.aj ?_
 repeat refine Pl.af ?_
 refine Pl.ah (by kernel_rfl) ?_
 refine Pl.bK (z:=.agg #[.bool false,.slice none 0 0,.int .i64 0]) (by kernel_rfl) rfl rfl rfl rfl (fun Y hY=>trivial) ?_
 intro N4 w4 aP wQ bV
 have ES:=Pl.Cb.lt bV
 have kY:=Pl.Ex.size aP
 replace bV:Pl.Cb w4 N4 26 [.bool false,.slice none 0 0,.int .i64 0]:=bV
 refine Pl.aj ?_
 repeat refine Pl.af ?_
 refine Pl.ah (by kernel_rfl) ?_
 refine Pl.bg (part:=[.bool (decide (ma<0)),.slice Aa (limbs (Int.natAbs ma)).length ca,.int .i64 ea]) (Pl.Cb.ex ak (Pl.Ex.trans hE2 (Pl.Ex.trans aJ aP))) rfl Tryz.underlying26 rfl (by kernel_rfl) trivial rfl rfl rfl rfl rfl ?_
 refine Pl.bg (part:=[.bool (decide (mb<0)),.slice Ab (limbs (Int.natAbs mb)).length cb,.int .i64 eb]) (Pl.Cb.ex aA (Pl.Ex.trans aJ aP)) rfl Tryz.underlying26 rfl (by kernel_rfl) trivial rfl rfl rfl rfl rfl ?_
 refine Pl.uu trivial rfl rfl rfl rfl rfl rfl ?_
 refine Pl.ay rfl rfl rfl rfl rfl (fun u X=>Pl.enters Tryz.func68 (by kernel_rfl) rfl u X) ?_
 refine Calls.mono (Rm _ (hg.ext (Pl.Ex.trans hE1 (Pl.Ex.trans hE2 (Pl.Ex.trans aJ aP)))) N4 bV _ _ x y L J lo hi (Dn.mk (Un.below ua (Pl.Ex.trans hE1 (Pl.Ex.trans hE2 (Pl.Ex.trans aJ aP)))) da.can da.val da.sz da.lo da.hi) (Dn.mk (Un.below ub (Pl.Ex.trans hE1 (Pl.Ex.trans hE2 (Pl.Ex.trans aJ aP)))) db.can db.val db.sz db.lo db.hi) hJ hL hlo hhi lo2 hi2 h1 h2 h3 h4) ?_
 rintro e w5 ⟨rfl,iW,m1,e1,A1,c1,fO,u1,d1⟩
 have aW:=Pl.Ex.xs aP iW (by omega)
 have mI:=Pl.Xs.size iW
 refine ⟨_,rfl,trivial,?_⟩
 refine Pl.aj ?_
 repeat refine Pl.af ?_
 refine Pl.ah (by kernel_rfl) ?_
 refine Pl.bg (part:=[.bool (decide (m1<0)),.slice A1 (limbs (Int.natAbs m1)).length c1,.int .i64 e1]) fO rfl Tryz.underlying26 rfl (by kernel_rfl) trivial rfl rfl rfl rfl rfl ?_
 refine Pl.bz (new:=[.bool (decide (m1<0)),.slice A1 (limbs (Int.natAbs m1)).length c1,.int .i64 e1]) (Pl.Cb.ex aY aW) (by kernel_rfl) rfl (by simp [Value.oneCell']) rfl rfl rfl rfl rfl rfl (fun Y hY=>trivial) ?_
 intro w6 jY fE
 have bO:=Pl.Ex.xs (Pl.Ex.trans aJ aW) jY (by omega)
 have rC:=Pl.Xs.size jY
 have yh:=Pl.Cb.xs fO jY (by simp;omega)
 refine Pl.aj ?_
 have k5:=Un.xs u1 jY (Pl.Cb.ex aY aW) (by simp)
 repeat refine Pl.af ?_
 exact Pl.aV rfl rfl fE Tryz.underlying26 rfl (by kernel_rfl) (⟨_,rfl,(Dn.mk k5 d1.can d1.val d1.sz d1.lo d1.hi),(Pl.Ex.trans hE1 (Pl.Ex.trans hE2 bO))⟩)
theorem vM (w:World) (hg:Gt w) (va vb:Value) (x y:Rat) (L J:Nat) (lo hi:Int) (ha:Dn w va x L lo hi) (hb:Dn w vb y L lo hi) (hJ:hi-lo≤32*J) (hL:L+J+1≤20000) (hlo : -900000≤lo) (hhi:hi≤900000) (lo2 hi2:Int) (h1:lo2≤lo-1) (h2:hi+32*(L+J+1:Nat)≤hi2) (h3:lo2≤0) (h4:0≤hi2) :
  Calls Tryz.prog 32 #[va,vb] w fun e w'=>∃ u,e = .returned u∧Dn w' u ((x+y)/2) (L+J+1) lo2 hi2∧Pl.Ex w w':=by
 obtain ⟨ma,ea,Aa,ca,rfl,ua,da⟩:=ha
 have yx:=da.lo
 have yz:=da.hi
 obtain ⟨mb,eb,Ab,cb,rfl,ub,db⟩:=hb
 have Ny:=db.lo
 have Nz:=db.hi
 refine Pl.aN (n:=11) (vs:=[.agg #[.bool (decide (ma<0)),.slice Aa (limbs (Int.natAbs ma)).length ca,.int .i64 ea],.agg #[.bool (decide (mb<0)),.slice Ab (limbs (Int.natAbs mb)).length cb,.int .i64 eb]]) Tryz.func32 rfl (by kernel_rfl) (by simp) ?_
 repeat refine Pl.af ?_
 refine Pl.ah (by kernel_rfl) ?_
 refine Pl.bF (cs:=[.bool (decide (ma<0)),.slice Aa (limbs (Int.natAbs ma)).length ca,.int .i64 ea]) rfl rfl rfl rfl rfl rfl (fun Y hY=>trivial) ?_
 intro N1 w1 hE1 bT ak
 have dP:=Pl.Cb.lt ak
 have jC:=Pl.Ex.size hE1
 refine Pl.bF (cs:=[.bool (decide (mb<0)),.slice Ab (limbs (Int.natAbs mb)).length cb,.int .i64 eb]) rfl rfl rfl rfl rfl rfl (fun Y hY=>trivial) ?_
 intro N2 w2 hE2 dU aA
 have iq:=Pl.Cb.lt aA
 have jM:=Pl.Ex.size hE2
 refine Pl.bK (z:=.agg #[.bool false,.slice none 0 0,.int .i64 0]) (by kernel_rfl) rfl rfl rfl rfl (fun Y hY=>trivial) ?_
 intro N3 w3 aJ pY aY
 have yg:=Pl.Cb.lt aY
 have jX:=Pl.Ex.size aJ
 replace aY:Pl.Cb w3 N3 26 [.bool false,.slice none 0 0,.int .i64 0]:=aY
 refine Pl.aj ?_
 repeat refine Pl.af ?_
 refine Pl.ah (by kernel_rfl) ?_
 refine Pl.bK (z:=.agg #[.bool false,.slice none 0 0,.int .i64 0]) (by kernel_rfl) rfl rfl rfl rfl (fun Y hY=>trivial) ?_
 intro N4 w4 aP wQ bV
 have ES:=Pl.Cb.lt bV
 have kY:=Pl.Ex.size aP
 replace bV:Pl.Cb w4 N4 26 [.bool false,.slice none 0 0,.int .i64 0]:=bV
 refine Pl.aj ?_
 repeat refine Pl.af ?_
 refine Pl.ah (by kernel_rfl) ?_
 refine Pl.bg (part:=[.bool (decide (ma<0)),.slice Aa (limbs (Int.natAbs ma)).length ca,.int .i64 ea]) (Pl.Cb.ex ak (Pl.Ex.trans hE2 (Pl.Ex.trans aJ aP))) rfl Tryz.underlying26 rfl (by kernel_rfl) trivial rfl rfl rfl rfl rfl ?_
 refine Pl.bg (part:=[.bool (decide (mb<0)),.slice Ab (limbs (Int.natAbs mb)).length cb,.int .i64 eb]) (Pl.Cb.ex aA (Pl.Ex.trans aJ aP)) rfl Tryz.underlying26 rfl (by kernel_rfl) trivial rfl rfl rfl rfl rfl ?_
 refine Pl.uu trivial rfl rfl rfl rfl rfl rfl ?_
 refine Pl.ay rfl rfl rfl rfl rfl (fun u X=>Pl.enters Tryz.func68 (by kernel_rfl) rfl u X) ?_
 refine Calls.mono (Rp _ (hg.ext (Pl.Ex.trans hE1 (Pl.Ex.trans hE2 (Pl.Ex.trans aJ aP)))) N4 bV _ _ x y L J lo hi (Dn.mk (Un.below ua (Pl.Ex.trans hE1 (Pl.Ex.trans hE2 (Pl.Ex.trans aJ aP)))) da.can da.val da.sz da.lo da.hi) (Dn.mk (Un.below ub (Pl.Ex.trans hE1 (Pl.Ex.trans hE2 (Pl.Ex.trans aJ aP)))) db.can db.val db.sz db.lo db.hi) hJ hL hlo hhi lo2 hi2 h1 h2 h3 h4) ?_
 rintro e w5 ⟨rfl,iW,m1,e1,A1,c1,fO,u1,d1⟩
 have aW:=Pl.Ex.xs aP iW (by omega)
 have mI:=Pl.Xs.size iW
 refine ⟨_,rfl,trivial,?_⟩
 refine Pl.aj ?_
 repeat refine Pl.af ?_
 refine Pl.ah (by kernel_rfl) ?_
 refine Pl.bg (part:=[.bool (decide (m1<0)),.slice A1 (limbs (Int.natAbs m1)).length c1,.int .i64 e1]) fO rfl Tryz.underlying26 rfl (by kernel_rfl) trivial rfl rfl rfl rfl rfl ?_
 refine Pl.bz (new:=[.bool (decide (m1<0)),.slice A1 (limbs (Int.natAbs m1)).length c1,.int .i64 e1]) (Pl.Cb.ex aY aW) (by kernel_rfl) rfl (by simp [Value.oneCell']) rfl rfl rfl rfl rfl rfl (fun Y hY=>trivial) ?_
 intro w6 jY fE
 have bO:=Pl.Ex.xs (Pl.Ex.trans aJ aW) jY (by omega)
 have rC:=Pl.Xs.size jY
 have yh:=Pl.Cb.xs fO jY (by simp;omega)
 refine Pl.aj ?_
 have k5:=Un.xs u1 jY (Pl.Cb.ex aY aW) (by simp)
 repeat refine Pl.af ?_
 exact Pl.aV rfl rfl fE Tryz.underlying26 rfl (by kernel_rfl) (⟨_,rfl,(Dn.mk k5 d1.can d1.val d1.sz d1.lo d1.hi),(Pl.Ex.trans hE1 (Pl.Ex.trans hE2 bO))⟩)
theorem vI (w:World) (hg:Gt w) (va vb:Value) (x y:Rat) (L J:Nat) (lo hi:Int) (ha:Dn w va x L lo hi) (hb:Dn w vb y L lo hi) (hJ:hi-lo≤32*J) (hL:L+J+1≤20000) (hlo : -900000≤lo) (hhi:hi≤900000) (lo2 hi2:Int) (h1:lo2≤lo-1) (h2:hi+32*(L+J+1:Nat)≤hi2) (h3:lo2≤0) (h4:0≤hi2) :
  Calls Tryz.prog 20 #[va,vb] w fun e w'=>∃ k:Int,e = .returned (.int .i64 k)∧ET x y k∧Pl.Ex w w':=by
 obtain ⟨ma,ea,Aa,ca,rfl,ua,da⟩:=ha
 have yx:=da.lo
 have yz:=da.hi
 obtain ⟨mb,eb,Ab,cb,rfl,ub,db⟩:=hb
 have Ny:=db.lo
 have Nz:=db.hi
 refine Pl.aN (n:=19) (vs:=[.agg #[.bool (decide (ma<0)),.slice Aa (limbs (Int.natAbs ma)).length ca,.int .i64 ea],.agg #[.bool (decide (mb<0)),.slice Ab (limbs (Int.natAbs mb)).length cb,.int .i64 eb]]) Tryz.func20 rfl (by kernel_rfl) (by simp) ?_
 repeat refine Pl.af ?_
 refine Pl.ah (by kernel_rfl) ?_
 refine Pl.bF (cs:=[.bool (decide (ma<0)),.slice Aa (limbs (Int.natAbs ma)).length ca,.int .i64 ea]) rfl rfl rfl rfl rfl rfl (fun Y hY=>trivial) ?_
 intro N1 w1 hE1 bT ak
 have dP:=Pl.Cb.lt ak
 have jC:=Pl.Ex.size hE1
 refine Pl.bF (cs:=[.bool (decide (mb<0)),.slice Ab (limbs (Int.natAbs mb)).length cb,.int .i64 eb]) rfl rfl rfl rfl rfl rfl (fun Y hY=>trivial) ?_
 intro N2 w2 hE2 dU aA
 have iq:=Pl.Cb.lt aA
 have jM:=Pl.Ex.size hE2
 refine Pl.aG trivial rfl ?_
 refine Pl.aj ?_
 repeat refine Pl.af ?_
 refine Pl.Fa (fun l' w'=>∃ (No:Nat) (ko:Int),Pl.Ex w2 w'∧(Pl.Cb w' No 3 [.int .i64 ko])∧(w2.heap.size≤No)∧(Csg x y ko)∧l'=[(2,.pointer (some ⟨N1,0,none⟩)),(3,.pointer (some ⟨N2,0,none⟩)),(4,.int .i64 0),(5,.pointer (some ⟨No,0,none⟩))]) ?_ fun zq=>?_
 · rintro _ w3 ⟨No,ko,aJ,kNo,hNo,hko,rfl⟩
   have jX:=Pl.Ex.size aJ
   have bko : -1≤ko∧ko≤1:=⟨hko.1,hko.2.1⟩
   repeat refine Pl.af ?_
   refine Pl.ah (by kernel_rfl) ?_
   refine Pl.bD (v:=.int .i64 ko) Tryz.underlying3 rfl (Pl.Cb.at (j:=0) kNo rfl) trivial rfl rfl rfl rfl rfl ?_
   by_cases c4:ko≠0
   · refine Pl.bP (v:=.bool true) (fun X=>sD c4 X) trivial rfl rfl rfl rfl rfl rfl ?_
     refine Pl.aj ?_
     repeat refine Pl.af ?_
     refine Pl.fP rfl ?_
     repeat refine Pl.af ?_
     refine Pl.ah (by kernel_rfl) ?_
     refine Pl.bD (v:=.int .i64 ko) Tryz.underlying3 rfl (Pl.Cb.at (j:=0) kNo rfl) trivial rfl rfl rfl rfl rfl ?_
     refine Pl.aG trivial rfl ?_
     refine Pl.aj ?_
     repeat refine Pl.af ?_
     exact Pl.aZ rfl rfl  (⟨ko,rfl,hko.2.2 c4,(Pl.Ex.trans hE1 (Pl.Ex.trans hE2 aJ))⟩)
   · refine Pl.bP (v:=.bool false) (fun X=>om c4 X) trivial rfl rfl rfl rfl rfl rfl ?_
     refine Pl.aj ?_
     repeat refine Pl.af ?_
     refine Pl.dH rfl ?_
     repeat refine Pl.af ?_
     refine Pl.fG ?_
     repeat refine Pl.af ?_
     refine Pl.ah (by kernel_rfl) ?_
     obtain rfl:ko=0:=by have:=c4;omega
     refine Pl.bg (part:=[.bool (decide (ma<0)),.slice Aa (limbs (Int.natAbs ma)).length ca,.int .i64 ea]) (Pl.Cb.ex ak (Pl.Ex.trans hE2 aJ)) rfl Tryz.underlying26 rfl (by kernel_rfl) trivial rfl rfl rfl rfl rfl ?_
     refine Pl.bg (part:=[.bool (decide (mb<0)),.slice Ab (limbs (Int.natAbs mb)).length cb,.int .i64 eb]) (Pl.Cb.ex aA aJ) rfl Tryz.underlying26 rfl (by kernel_rfl) trivial rfl rfl rfl rfl rfl ?_
     refine Pl.uu trivial rfl rfl rfl rfl rfl rfl ?_
     refine Pl.ay rfl rfl rfl rfl rfl (fun u X=>Pl.enters Tryz.func68 (by kernel_rfl) rfl u X) ?_
     refine Calls.mono (Rs _ (hg.ext (Pl.Ex.trans hE1 (Pl.Ex.trans hE2 aJ))) No kNo _ _ x y L J lo hi (Dn.mk (Un.below ua (Pl.Ex.trans hE1 (Pl.Ex.trans hE2 aJ))) da.can da.val da.sz da.lo da.hi) (Dn.mk (Un.below ub (Pl.Ex.trans hE1 (Pl.Ex.trans hE2 aJ))) db.can db.val db.sz db.lo db.hi) hJ hL hlo hhi lo2 hi2 h1 h2 h3 h4) ?_
     rintro e w4 ⟨rfl,wo,kk,XU,hk⟩
     have aP:=Pl.Ex.xs aJ wo (by omega)
     have kY:=Pl.Xs.size wo
     refine ⟨_,rfl,trivial,?_⟩
     refine Pl.aj ?_
     repeat refine Pl.af ?_
     refine Pl.ah (by kernel_rfl) ?_
     refine Pl.bD (v:=.int .i64 kk) Tryz.underlying3 rfl (Pl.Cb.at (j:=0) XU rfl) trivial rfl rfl rfl rfl rfl ?_
     refine Pl.aG trivial rfl ?_
     refine Pl.aj ?_
     repeat refine Pl.af ?_
     exact Pl.aZ rfl rfl  (⟨kk,rfl,hk,(Pl.Ex.trans hE1 (Pl.Ex.trans hE2 aP))⟩)
 · repeat refine Pl.af ?_
   refine Pl.uj (S:=fun X=>Pl.Ex w2 X) fo (Pl.Ex.trans (Pl.Ex.refl _) (Pl.Ex.drew _)) ?_
   have aJ:=Pl.Ex.drew w2
   generalize w2.drew=w3 at *
   have jX:=Pl.Ex.size aJ
   intro dL
   refine Pl.jk [(true,0,0),(true,2,1)] 5 5 Pl.aR (by kernel_rfl) (by kernel_rfl) (by kernel_rfl) ?_
   refine Pl.bn (part:=[.bool (decide (ma<0)),.slice Aa (limbs (Int.natAbs ma)).length ca,.int .i64 ea]) (fun X hX=>Pl.Cb.ex (Pl.Cb.ex ak hE2) hX) rfl Tryz.underlying26 rfl (by kernel_rfl) dL rfl rfl rfl rfl rfl ?_
   refine Pl.bn (part:=[.bool (decide (mb<0)),.slice Ab (limbs (Int.natAbs mb)).length cb,.int .i64 eb]) (fun X hX=>Pl.Cb.ex aA hX) rfl Tryz.underlying26 rfl (by kernel_rfl) dL rfl rfl rfl rfl rfl ?_
   refine Pl.aj ?_
   refine Pl.uP [1,5] 4 (by kernel_rfl) (by kernel_rfl) (by kernel_rfl) (Pl.dO ?_ (Pl.dO ?_ Pl.jU))
   · refine Pl.ay rfl rfl rfl rfl rfl (fun u X=>Pl.enters Tryz.func22 (by kernel_rfl) rfl u X) ?_
     refine Calls.mono (iY _ _ x _ _ _ (Dn.mk (Un.below ua (Pl.Ex.trans hE1 (Pl.Ex.trans hE2 aJ))) da.can da.val da.sz da.lo da.hi)) ?_
     rintro e w4 ⟨k4,rfl,YF,aP⟩
     have bk4:=(show -1≤k4∧k4≤1 from ⟨YF.1,YF.2.1⟩)
     have kY:=Pl.Ex.size aP
     have fJ:=Pl.Ex.trans dL aP
     refine ⟨_,rfl,fJ,?_⟩
     refine Pl.aj ?_
     refine Pl.uP [3,5] 3 (by kernel_rfl) (by kernel_rfl) (by kernel_rfl) (Pl.dO ?_ (Pl.dO ?_ Pl.jU))
     · refine Pl.ay rfl rfl rfl rfl rfl (fun u X=>Pl.enters Tryz.func22 (by kernel_rfl) rfl u X) ?_
       refine Calls.mono (iY _ _ y _ _ _ (Dn.mk (Un.below ub (Pl.Ex.trans hE1 (Pl.Ex.trans hE2 (Pl.Ex.trans aJ aP)))) db.can db.val db.sz db.lo db.hi)) ?_
       rintro e w5 ⟨k5,rfl,UX,aW⟩
       have bk5:=(show -1≤k5∧k5≤1 from ⟨UX.1,UX.2.1⟩)
       have mI:=Pl.Ex.size aW
       have hS5:=Pl.Ex.trans fJ aW
       refine ⟨_,rfl,hS5,?_⟩
       refine Pl.aj ?_
       refine Pl.uP [4,5] 2 (by kernel_rfl) (by kernel_rfl) (by kernel_rfl) (Pl.dO ?_ (Pl.dO ?_ Pl.jU))
       · refine Pl.ay rfl rfl rfl rfl rfl (fun u X=>Pl.enters Tryz.func67 (by kernel_rfl) rfl u X) ?_
         refine Calls.mono (U0 _ k4 k5) ?_
         rintro e w6 ⟨rfl,bO⟩
         obtain ⟨k6,qk6⟩:∃ q,bZ k4 k5=q:=⟨_,rfl⟩
         rw [qk6]
         have rC:=Pl.Ex.size bO
         have kD:=Pl.Ex.trans hS5 bO
         refine ⟨_,rfl,kD,?_⟩
         refine Pl.aj ?_
         refine Pl.jk [(false,5,31),(false,6,63)] 127 0 Pl.aR (by kernel_rfl) (by kernel_rfl) (by kernel_rfl) ?_
         refine Pl.bK (z:=.int .i64 0) (by kernel_rfl) rfl rfl rfl rfl (fun Y hY=>Pl.Ex.trans kD hY) ?_
         intro N7 w7 cB VE mQ
         have Zf:=Pl.Cb.lt mQ
         have wm:=Pl.Ex.size cB
         replace mQ:Pl.Cb w7 N7 3 [.int .i64 0]:=mQ
         have lJ:=Pl.Ex.trans kD cB
         refine Pl.Cw (j:=0) (u:=.int .i64 k6) mQ (by simp) (by kernel_rfl) rfl rfl rfl rfl rfl rfl rfl rfl (fun Y hY=>Pl.Ex.xs lJ hY (by omega)) ?_
         intro w8 iL BA
         have iX:=Pl.Ex.xs cB iL (by omega)
         replace BA:Pl.Cb w8 N7 3 [.int .i64 k6]:=BA
         have EW:=Pl.Xs.size iL
         have Nr:=Pl.Ex.xs lJ iL (by omega)
         refine Pl.aj ?_
         refine Pl.Kj (by kernel_rfl) ?_
         refine Pl.lI [(2,.pointer (some ⟨N1,0,none⟩)),(3,.pointer (some ⟨N2,0,none⟩)),(4,.int .i64 0),(5,.pointer (some ⟨N7,0,none⟩))] (Pl.aC rfl (Pl.aC rfl (Pl.aC rfl (Pl.aC rfl Pl.dW)))) ?_
         exact zq _ _ ⟨N7,k6,(Pl.Ex.trans aJ (Pl.Ex.trans aP (Pl.Ex.trans aW (Pl.Ex.trans bO iX)))),BA,(by omega),FD YF UX qk6,rfl⟩
       · refine Pl.bK (z:=.int .i64 0) (by kernel_rfl) rfl rfl rfl rfl (fun Y hY=>Pl.Ex.trans hS5 hY) ?_
         intro N6 w6 bO afY FE
         have aiM:=Pl.Cb.lt FE
         have rC:=Pl.Ex.size bO
         replace FE:Pl.Cb w6 N6 3 [.int .i64 0]:=FE
         have kD:=Pl.Ex.trans hS5 bO
         refine Pl.aj ?_
         refine Pl.jk [(false,4,47),(false,6,63)] 127 0 Pl.aR (by kernel_rfl) (by kernel_rfl) (by kernel_rfl) ?_
         refine Pl.ay rfl rfl rfl rfl rfl (fun u X=>Pl.enters Tryz.func67 (by kernel_rfl) rfl u X) ?_
         refine Calls.mono (U0 _ k4 k5) ?_
         rintro e w7 ⟨rfl,cB⟩
         obtain ⟨k7,VT⟩:∃ q,bZ k4 k5=q:=⟨_,rfl⟩
         rw [VT]
         have wm:=Pl.Ex.size cB
         have lJ:=Pl.Ex.trans kD cB
         refine ⟨_,rfl,lJ,?_⟩
         refine Pl.Cw (j:=0) (u:=.int .i64 k7) (Pl.Cb.ex FE cB) (by simp) (by kernel_rfl) rfl rfl rfl rfl rfl rfl rfl rfl (fun Y hY=>Pl.Ex.xs lJ hY (by omega)) ?_
         intro w8 iL KO
         have iX:=Pl.Ex.xs (Pl.Ex.trans bO cB) iL (by omega)
         replace KO:Pl.Cb w8 N6 3 [.int .i64 k7]:=KO
         have EW:=Pl.Xs.size iL
         have Nr:=Pl.Ex.xs lJ iL (by omega)
         refine Pl.aj ?_
         refine Pl.Kj (by kernel_rfl) ?_
         refine Pl.lI [(2,.pointer (some ⟨N1,0,none⟩)),(3,.pointer (some ⟨N2,0,none⟩)),(4,.int .i64 0),(5,.pointer (some ⟨N6,0,none⟩))] (Pl.aC rfl (Pl.aC rfl (Pl.aC rfl (Pl.aC rfl Pl.dW)))) ?_
         exact zq _ _ ⟨N6,k7,(Pl.Ex.trans aJ (Pl.Ex.trans aP (Pl.Ex.trans aW iX))),KO,(by omega),FD YF UX VT,rfl⟩
     · refine Pl.bK (z:=.int .i64 0) (by kernel_rfl) rfl rfl rfl rfl (fun Y hY=>Pl.Ex.trans fJ hY) ?_
       intro N5 w5 aW Qr jK
       have Xr:=Pl.Cb.lt jK
       have mI:=Pl.Ex.size aW
       replace jK:Pl.Cb w5 N5 3 [.int .i64 0]:=jK
       have hS5:=Pl.Ex.trans fJ aW
       refine Pl.aj ?_
       refine Pl.jk [(false,3,39),(false,4,47),(false,6,63)] 127 0 Pl.aR (by kernel_rfl) (by kernel_rfl) (by kernel_rfl) ?_
       refine Pl.ay rfl rfl rfl rfl rfl (fun u X=>Pl.enters Tryz.func22 (by kernel_rfl) rfl u X) ?_
       refine Calls.mono (iY _ _ y _ _ _ (Dn.mk (Un.below ub (Pl.Ex.trans hE1 (Pl.Ex.trans hE2 (Pl.Ex.trans aJ (Pl.Ex.trans aP aW))))) db.can db.val db.sz db.lo db.hi)) ?_
       rintro e w6 ⟨k6,rfl,XV,bO⟩
       have bk6:=(show -1≤k6∧k6≤1 from ⟨XV.1,XV.2.1⟩)
       have rC:=Pl.Ex.size bO
       have kD:=Pl.Ex.trans hS5 bO
       refine ⟨_,rfl,kD,?_⟩
       refine Pl.ay rfl rfl rfl rfl rfl (fun u X=>Pl.enters Tryz.func67 (by kernel_rfl) rfl u X) ?_
       refine Calls.mono (U0 _ k4 k6) ?_
       rintro e w7 ⟨rfl,cB⟩
       obtain ⟨k7,VT⟩:∃ q,bZ k4 k6=q:=⟨_,rfl⟩
       rw [VT]
       have wm:=Pl.Ex.size cB
       have lJ:=Pl.Ex.trans kD cB
       refine ⟨_,rfl,lJ,?_⟩
       refine Pl.Cw (j:=0) (u:=.int .i64 k7) (Pl.Cb.ex jK (Pl.Ex.trans bO cB)) (by simp) (by kernel_rfl) rfl rfl rfl rfl rfl rfl rfl rfl (fun Y hY=>Pl.Ex.xs lJ hY (by omega)) ?_
       intro w8 iL sS
       have iX:=Pl.Ex.xs (Pl.Ex.trans aW (Pl.Ex.trans bO cB)) iL (by omega)
       replace sS:Pl.Cb w8 N5 3 [.int .i64 k7]:=sS
       have EW:=Pl.Xs.size iL
       have Nr:=Pl.Ex.xs lJ iL (by omega)
       refine Pl.aj ?_
       refine Pl.Kj (by kernel_rfl) ?_
       refine Pl.lI [(2,.pointer (some ⟨N1,0,none⟩)),(3,.pointer (some ⟨N2,0,none⟩)),(4,.int .i64 0),(5,.pointer (some ⟨N5,0,none⟩))] (Pl.aC rfl (Pl.aC rfl (Pl.aC rfl (Pl.aC rfl Pl.dW)))) ?_
       exact zq _ _ ⟨N5,k7,(Pl.Ex.trans aJ (Pl.Ex.trans aP iX)),sS,(by omega),FD YF XV VT,rfl⟩
   · refine Pl.bK (z:=.int .i64 0) (by kernel_rfl) rfl rfl rfl rfl (fun Y hY=>Pl.Ex.trans dL hY) ?_
     intro N4 w4 aP wQ bV
     have ES:=Pl.Cb.lt bV
     have kY:=Pl.Ex.size aP
     replace bV:Pl.Cb w4 N4 3 [.int .i64 0]:=bV
     have fJ:=Pl.Ex.trans dL aP
     refine Pl.aj ?_
     refine Pl.jk [(false,1,37),(false,3,39),(false,4,47),(false,6,63)] 127 0 Pl.aR (by kernel_rfl) (by kernel_rfl) (by kernel_rfl) ?_
     refine Pl.ay rfl rfl rfl rfl rfl (fun u X=>Pl.enters Tryz.func22 (by kernel_rfl) rfl u X) ?_
     refine Calls.mono (iY _ _ x _ _ _ (Dn.mk (Un.below ua (Pl.Ex.trans hE1 (Pl.Ex.trans hE2 (Pl.Ex.trans aJ aP)))) da.can da.val da.sz da.lo da.hi)) ?_
     rintro e w5 ⟨k5,rfl,UX,aW⟩
     have bk5:=(show -1≤k5∧k5≤1 from ⟨UX.1,UX.2.1⟩)
     have mI:=Pl.Ex.size aW
     have hS5:=Pl.Ex.trans fJ aW
     refine ⟨_,rfl,hS5,?_⟩
     refine Pl.ay rfl rfl rfl rfl rfl (fun u X=>Pl.enters Tryz.func22 (by kernel_rfl) rfl u X) ?_
     refine Calls.mono (iY _ _ y _ _ _ (Dn.mk (Un.below ub (Pl.Ex.trans hE1 (Pl.Ex.trans hE2 (Pl.Ex.trans aJ (Pl.Ex.trans aP aW))))) db.can db.val db.sz db.lo db.hi)) ?_
     rintro e w6 ⟨k6,rfl,XV,bO⟩
     have bk6:=(show -1≤k6∧k6≤1 from ⟨XV.1,XV.2.1⟩)
     have rC:=Pl.Ex.size bO
     have kD:=Pl.Ex.trans hS5 bO
     refine ⟨_,rfl,kD,?_⟩
     refine Pl.ay rfl rfl rfl rfl rfl (fun u X=>Pl.enters Tryz.func67 (by kernel_rfl) rfl u X) ?_
     refine Calls.mono (U0 _ k5 k6) ?_
     rintro e w7 ⟨rfl,cB⟩
     obtain ⟨k7,VT⟩:∃ q,bZ k5 k6=q:=⟨_,rfl⟩
     rw [VT]
     have wm:=Pl.Ex.size cB
     have lJ:=Pl.Ex.trans kD cB
     refine ⟨_,rfl,lJ,?_⟩
     refine Pl.Cw (j:=0) (u:=.int .i64 k7) (Pl.Cb.ex bV (Pl.Ex.trans aW (Pl.Ex.trans bO cB))) (by simp) (by kernel_rfl) rfl rfl rfl rfl rfl rfl rfl rfl (fun Y hY=>Pl.Ex.xs lJ hY (by omega)) ?_
     intro w8 iL fO
     have iX:=Pl.Ex.xs (Pl.Ex.trans aP (Pl.Ex.trans aW (Pl.Ex.trans bO cB))) iL (by omega)
     replace fO:Pl.Cb w8 N4 3 [.int .i64 k7]:=fO
     have EW:=Pl.Xs.size iL
     have Nr:=Pl.Ex.xs lJ iL (by omega)
     refine Pl.aj ?_
     refine Pl.Kj (by kernel_rfl) ?_
     refine Pl.lI [(2,.pointer (some ⟨N1,0,none⟩)),(3,.pointer (some ⟨N2,0,none⟩)),(4,.int .i64 0),(5,.pointer (some ⟨N4,0,none⟩))] (Pl.aC rfl (Pl.aC rfl (Pl.aC rfl (Pl.aC rfl Pl.dW)))) ?_
     exact zq _ _ ⟨N4,k7,(Pl.Ex.trans aJ iX),fO,(by omega),FD UX XV VT,rfl⟩
end Go.Proofs.YtdpmbgomcjnohaaGreatDoor
/- Differences, products, floors; as rationals. -/
namespace Go.Proofs.YtdpmbgomcjnohaaGreatDoor
open Go.RowKit 
set_option linter.all false
set_option maxRecDepth 100000
set_option maxHeartbeats 8000000
theorem KP (w:World)  :
  Calls Tryz.prog 116 #[] w fun e w'=>∃ u,e = .returned u∧Un w' u 1∧Pl.Ex w w':=by
 refine Pl.aN (n:=2) (vs:=[]) Tryz.func116 rfl (by kernel_rfl) (by simp) ?_
 repeat refine Pl.af ?_
 refine Pl.ah (by kernel_rfl) ?_
 refine Pl.aG trivial rfl ?_
 refine Pl.aj ?_
 repeat refine Pl.af ?_
 refine Pl.ah (by kernel_rfl) ?_
 refine Pl.ze (e := 67) (n:=1) [.int .u32 1] rfl rfl rfl rfl (by kernel_rfl) (fun Y hY=>trivial) ?_
 intro N1 w1 hE1 bT ak
 have dP:=Pl.Cb.lt ak
 have jC:=Pl.Ex.size hE1
 refine Pl.aG trivial rfl ?_
 refine Pl.aj ?_
 have hl2:=Un.one (x:=1) ak rfl (by omega)
 repeat refine Pl.af ?_
 exact Pl.aZ rfl rfl  (⟨_,rfl,hl2,hE1⟩)
theorem Qn.of {w:World} {A A2:Option Addr} {c c2 L M d l2:Nat} {n:Int} {q:Rat} (h1:q.num=n) (h2:q.den=d) (u:Un w (.slice A (limbs n.natAbs).length c) n.natAbs) (u2:Un w (.slice A2 l2 c2) d) (h3:Sz n L) (h4:Sn d M) :
  Qn w (.agg #[.bool (decide (n<0)),.slice A (limbs n.natAbs).length c,.slice A2 l2 c2]) q L M:=by
 subst h1 h2
 obtain rfl:l2=_:=u2.len
 exact Qn.mk u u2 h3 h4
theorem FH (w:World) (vn:Value) (n:Int) (L:Nat) (hn:Zn w vn n) (ln:Sz n L) :
  Calls Tryz.prog 80 #[vn] w fun e w'=>∃ u,e = .returned u∧Qn w' u ((n:Int):Rat) L 1∧Pl.Ex w w':=by
 obtain ⟨An,cn,rfl,un⟩:=hn
 refine Pl.aN (n:=6) (vs:=[.agg #[.bool (decide (n<0)),.slice An (limbs (Int.natAbs n)).length cn]]) Tryz.func80 rfl (by kernel_rfl) (by simp) ?_
 repeat refine Pl.af ?_
 refine Pl.ah (by kernel_rfl) ?_
 refine Pl.bF (cs:=[.bool (decide (n<0)),.slice An (limbs (Int.natAbs n)).length cn]) rfl rfl rfl rfl rfl rfl (fun Y hY=>trivial) ?_
 intro N1 w1 hE1 bT ak
 have dP:=Pl.Cb.lt ak
 have jC:=Pl.Ex.size hE1
 refine Pl.bK (z:=.agg #[.bool false,.slice none 0 0,.slice none 0 0]) (by kernel_rfl) rfl rfl rfl rfl (fun Y hY=>trivial) ?_
 intro N2 w2 hE2 dU aA
 have iq:=Pl.Cb.lt aA
 have jM:=Pl.Ex.size hE2
 replace aA:Pl.Cb w2 N2 41 [.bool false,.slice none 0 0,.slice none 0 0]:=aA
 refine Pl.aj ?_
 repeat refine Pl.af ?_
 refine Pl.fU (S:=fun X=>Pl.Ex w1 X) [(true,0,0),(false,1,1),(true,2,3),(false,3,7)] fo Pl.aR (by kernel_rfl) (Pl.Ex.trans hE2 (Pl.Ex.drew _)) ?_
 have aJ:=Pl.Ex.drew w2
 generalize w2.drew=w3 at *
 have jX:=Pl.Ex.size aJ
 intro dL
 refine Pl.bn (part:=[.bool (decide (n<0)),.slice An (limbs (Int.natAbs n)).length cn]) (fun X hX=>Pl.Cb.ex ak hX) rfl Tryz.underlying24 rfl (by kernel_rfl) dL rfl rfl rfl rfl rfl ?_
 refine Pl.ay rfl rfl rfl rfl rfl (fun u X=>Pl.enters Tryz.func116 (by kernel_rfl) rfl u X) ?_
 refine Calls.mono (KP _) ?_
 rintro e w4 ⟨v3,rfl,hv3,aP⟩
 have kY:=Pl.Ex.size aP
 have fJ:=Pl.Ex.trans dL aP
 refine ⟨_,rfl,fJ,?_⟩
 obtain ⟨A4,c5,rfl⟩:=Un.WI hv3
 refine Pl.aL (.agg #[.bool (decide (n<0)),.slice An (limbs (Int.natAbs n)).length cn,(.slice A4 (limbs 1).length c5)]) fJ rfl rfl rfl rfl (fun X=>by kernel_rfl) ?_
 refine Pl.bz (new:=[.bool (decide (n<0)),.slice An (limbs (Int.natAbs n)).length cn,(.slice A4 (limbs 1).length c5)]) (Pl.Cb.ex aA (Pl.Ex.trans aJ aP)) (by kernel_rfl) rfl (by simp [Value.oneCell']) rfl rfl rfl rfl rfl rfl (fun Y hY=>Pl.Ex.xs fJ hY (by omega)) ?_
 intro w5 iW bf
 have aW:=Pl.Ex.xs (Pl.Ex.trans hE2 (Pl.Ex.trans aJ aP)) iW (by omega)
 have mI:=Pl.Xs.size iW
 have hS5:=Pl.Ex.xs fJ iW (by omega)
 refine Pl.aj ?_
 have k6:=Un.xs hv3 iW (Pl.Cb.ex aA (Pl.Ex.trans aJ aP)) (by simp)
 repeat refine Pl.af ?_
 exact Pl.aV rfl rfl bf Tryz.underlying41 rfl (by kernel_rfl) (⟨_,rfl,Qn.of (q:=((n:Int):Rat)) rfl rfl (Un.below un (Pl.Ex.trans hE1 aW)) k6 ln (show Sn 1 1 from Sn.of (by decide)),(Pl.Ex.trans hE1 aW)⟩)
theorem pK (w:World) (va:Value) (x:Rat) (n:Int) (L:Nat) (lo hi:Int) (ha:Dn w va x L lo hi) (hL:L≤100000) (hlo : -100000≤lo) (hhi:hi≤100000) (hn : -100000≤n∧n≤100000) :
  Calls Tryz.prog 44 #[va,.int .i64 n] w fun e w'=>∃ u,e = .returned u∧Zn w' u ((x*2^n).floor)∧Pl.Ex w w':=by
 obtain ⟨ma,ea,Aa,ca,rfl,ua,da⟩:=ha
 have yx:=da.lo
 have yz:=da.hi
 refine Pl.aN (n:=12) (vs:=[.agg #[.bool (decide (ma<0)),.slice Aa (limbs (Int.natAbs ma)).length ca,.int .i64 ea],.int .i64 n]) Tryz.func44 rfl (by kernel_rfl) (by simp) ?_
 repeat refine Pl.af ?_
 refine Pl.ah (by kernel_rfl) ?_
 refine Pl.bF (cs:=[.bool (decide (ma<0)),.slice Aa (limbs (Int.natAbs ma)).length ca,.int .i64 ea]) rfl rfl rfl rfl rfl rfl (fun Y hY=>trivial) ?_
 intro N1 w1 hE1 bT ak
 have dP:=Pl.Cb.lt ak
 have jC:=Pl.Ex.size hE1
 refine Pl.bK (z:=.agg #[.bool false,.slice none 0 0]) (by kernel_rfl) rfl rfl rfl rfl (fun Y hY=>trivial) ?_
 intro N2 w2 hE2 dU aA
 have iq:=Pl.Cb.lt aA
 have jM:=Pl.Ex.size hE2
 replace aA:Pl.Cb w2 N2 24 [.bool false,.slice none 0 0]:=aA
 refine Pl.aj ?_
 repeat refine Pl.af ?_
 refine Pl.ah (by kernel_rfl) ?_
 refine Pl.aL (.pointer (some ⟨N1,0,none⟩)) trivial rfl rfl rfl rfl (fun X=>by kernel_rfl) ?_
 refine Pl.bg (part:=[.bool (decide (ma<0)),.slice Aa (limbs (Int.natAbs ma)).length ca]) (Pl.Cb.ex ak hE2) rfl Tryz.underlying24 rfl (by kernel_rfl) trivial rfl rfl rfl rfl rfl ?_
 refine Pl.aL (.pointer (some ⟨N1,2,none⟩)) trivial rfl rfl rfl rfl (fun X=>by kernel_rfl) ?_
 refine Pl.bD (v:=.int .i64 ea) Tryz.underlying3 rfl (Pl.Cb.at (j:=2) (Pl.Cb.ex ak hE2) rfl) trivial rfl rfl rfl rfl rfl ?_
 refine Pl.aG trivial rfl ?_
 refine Pl.bP (v:=.int .i64 (ea+n)) (fun X=>yt (by omega) X) trivial rfl rfl rfl rfl rfl rfl ?_
 refine Pl.ay rfl rfl rfl rfl rfl (fun u X=>Pl.enters Tryz.func65 (by kernel_rfl) rfl u X) ?_
 refine Calls.mono (kH _ _ ma (ea+n) (Zn.of (Un.below ua (Pl.Ex.trans hE1 hE2))) (Nat.le_trans da.sz (by omega)) (by omega) (by omega) (shl ma (ea+n)) rfl) ?_
 rintro e w3 ⟨vs,rfl,hvs,aJ⟩
 obtain ⟨As,cs,rfl,us⟩:=hvs
 have jX:=Pl.Ex.size aJ
 refine ⟨_,rfl,trivial,?_⟩
 refine Pl.bz (new:=[.bool (decide ((shl ma (ea+n))<0)),.slice As (limbs (Int.natAbs (shl ma (ea+n)))).length cs]) (Pl.Cb.ex aA aJ) (by kernel_rfl) rfl (by simp [Value.oneCell']) rfl rfl rfl rfl rfl rfl (fun Y hY=>trivial) ?_
 intro w4 wo bf
 have aP:=Pl.Ex.xs (Pl.Ex.trans hE2 aJ) wo (by omega)
 have kY:=Pl.Xs.size wo
 refine Pl.aj ?_
 have k3:=Un.xs us wo (Pl.Cb.ex aA aJ) (by simp)
 repeat refine Pl.af ?_
 exact Pl.aV rfl rfl bf Tryz.underlying24 rfl (by kernel_rfl) (⟨_,rfl,by rw [← da.val,Dy.scaled];exact Zn.of k3,(Pl.Ex.trans hE1 aP)⟩)
theorem z8 {m e:Int} (h:0≤e):((shl m e:Int):Rat)=Dy.dv m e:=by
 obtain ⟨k,rfl⟩:=Int.eq_ofNat_of_zero_le h
 rw [oL,Dy.Ra]
theorem MI {m e:Int} {x:Rat} (hc:Dy.Can m e) (h:e<0) (hx:Dy.dv m e=x):x.num=m∧x.den=(shl 1 (-e)).natAbs:=by
 subst hx
 obtain ⟨k,hk⟩:=Int.eq_ofNat_of_zero_le (show 0 ≤ -e by omega)
 obtain rfl:e = -(k:Int):=by omega
 rw [Int.neg_neg,oL,Int.one_mul,Int.natAbs_pow]
 rcases hc with ⟨_,h0⟩ | h1
 · omega
 · exact Dy.XQ h1 k
theorem U1 {n:Int} {M:Nat} (h:n<32*(M:Int)) (h0:0≤n):Sn (shl 1 n).natAbs M:=by
 obtain ⟨k,rfl⟩:=Int.eq_ofNat_of_zero_le h0
 rw [oL,Int.one_mul,Int.natAbs_pow]
 exact Sn.bits (b:=k+1) (Nat.pow_lt_pow_right (by decide) (by omega)) (by omega)
theorem vQ (w:World) (va:Value) (x:Rat) (L J M:Nat) (lo hi:Int) (ha:Dn w va x L lo hi) (hL:L≤100000) (hlo : -100000≤lo) (hhi:hi≤100000) (hJ:hi≤32*J) (hM : -lo<32*M) (hM1:1≤M) :
  Calls Tryz.prog 35 #[va] w fun e w'=>∃ u,e = .returned u∧Qn w' u x (L+J) M∧Pl.Ex w w':=by
 obtain ⟨ma,ea,Aa,ca,rfl,ua,da⟩:=ha
 have yx:=da.lo
 have yz:=da.hi
 refine Pl.aN (n:=20) (vs:=[.agg #[.bool (decide (ma<0)),.slice Aa (limbs (Int.natAbs ma)).length ca,.int .i64 ea]]) Tryz.func35 rfl (by kernel_rfl) (by simp) ?_
 repeat refine Pl.af ?_
 refine Pl.ah (by kernel_rfl) ?_
 refine Pl.bF (cs:=[.bool (decide (ma<0)),.slice Aa (limbs (Int.natAbs ma)).length ca,.int .i64 ea]) rfl rfl rfl rfl rfl rfl (fun Y hY=>trivial) ?_
 intro N1 w1 hE1 bT ak
 have dP:=Pl.Cb.lt ak
 have jC:=Pl.Ex.size hE1
 refine Pl.bK (z:=.agg #[.bool false,.slice none 0 0,.slice none 0 0]) (by kernel_rfl) rfl rfl rfl rfl (fun Y hY=>trivial) ?_
 intro N2 w2 hE2 dU aA
 have iq:=Pl.Cb.lt aA
 have jM:=Pl.Ex.size hE2
 replace aA:Pl.Cb w2 N2 41 [.bool false,.slice none 0 0,.slice none 0 0]:=aA
 refine Pl.aj ?_
 repeat refine Pl.af ?_
 refine Pl.ah (by kernel_rfl) ?_
 refine Pl.aL (.pointer (some ⟨N1,2,none⟩)) trivial rfl rfl rfl rfl (fun X=>by kernel_rfl) ?_
 refine Pl.bD (v:=.int .i64 ea) Tryz.underlying3 rfl (Pl.Cb.at (j:=2) (Pl.Cb.ex ak hE2) rfl) trivial rfl rfl rfl rfl rfl ?_
 by_cases c3:ea≥0
 · refine Pl.bP (v:=.bool true) (fun X=>iP c3 X) trivial rfl rfl rfl rfl rfl rfl ?_
   refine Pl.aj ?_
   repeat refine Pl.af ?_
   refine Pl.fP rfl ?_
   repeat refine Pl.af ?_
   refine Pl.ah (by kernel_rfl) ?_
   refine Pl.aL (.pointer (some ⟨N1,0,none⟩)) trivial rfl rfl rfl rfl (fun X=>by kernel_rfl) ?_
   refine Pl.bg (part:=[.bool (decide (ma<0)),.slice Aa (limbs (Int.natAbs ma)).length ca]) (Pl.Cb.ex ak hE2) rfl Tryz.underlying24 rfl (by kernel_rfl) trivial rfl rfl rfl rfl rfl ?_
   refine Pl.aL (.pointer (some ⟨N1,2,none⟩)) trivial rfl rfl rfl rfl (fun X=>by kernel_rfl) ?_
   refine Pl.bD (v:=.int .i64 ea) Tryz.underlying3 rfl (Pl.Cb.at (j:=2) (Pl.Cb.ex ak hE2) rfl) trivial rfl rfl rfl rfl rfl ?_
   refine Pl.ay rfl rfl rfl rfl rfl (fun u X=>Pl.enters Tryz.func65 (by kernel_rfl) rfl u X) ?_
   refine Calls.mono (kH _ _ ma ea (Zn.of (Un.below ua (Pl.Ex.trans hE1 hE2))) (Nat.le_trans da.sz (by omega)) (by omega) (by omega) (shl ma ea) rfl) ?_
   rintro e w3 ⟨vs,rfl,hvs,aJ⟩
   obtain ⟨As,cs,rfl,us⟩:=hvs
   have hsz:Sz (shl ma ea) (L+J):=jF (j:=J) da.sz (by omega) (Nat.le_refl _)
   have jX:=Pl.Ex.size aJ
   refine ⟨_,rfl,trivial,?_⟩
   refine Pl.ay rfl rfl rfl rfl rfl (fun u X=>Pl.enters Tryz.func80 (by kernel_rfl) rfl u X) ?_
   refine Calls.mono (FH _ _ (shl ma ea) (L+J) (Zn.of us) hsz) ?_
   rintro e w4 ⟨vq,rfl,rz,aP⟩
   rw [z8 (by omega),da.val] at rz
   obtain ⟨Aq,cq,Ar,cr,rfl,uq,ur,qz,qd⟩:=rz
   have kY:=Pl.Ex.size aP
   refine ⟨_,rfl,trivial,?_⟩
   refine Pl.bz (new:=[.bool (decide ((Rat.num x)<0)),.slice Aq (limbs (Int.natAbs (Rat.num x))).length cq,.slice Ar (limbs (Rat.den x)).length cr]) (Pl.Cb.ex aA (Pl.Ex.trans aJ aP)) (by kernel_rfl) rfl (by simp [Value.oneCell']) rfl rfl rfl rfl rfl rfl (fun Y hY=>trivial) ?_
   intro w5 iW bf
   have aW:=Pl.Ex.xs (Pl.Ex.trans hE2 (Pl.Ex.trans aJ aP)) iW (by omega)
   have mI:=Pl.Xs.size iW
   refine Pl.aj ?_
   have k4:=Un.xs uq iW (Pl.Cb.ex aA (Pl.Ex.trans aJ aP)) (by simp)
   have k5:=Un.xs ur iW (Pl.Cb.ex aA (Pl.Ex.trans aJ aP)) (by simp)
   repeat refine Pl.af ?_
   exact Pl.aV rfl rfl bf Tryz.underlying41 rfl (by kernel_rfl) (⟨_,rfl,Qn.mk k4 k5 qz (qd.le hM1),(Pl.Ex.trans hE1 aW)⟩)
 · refine Pl.bP (v:=.bool false) (fun X=>jm c3 X) trivial rfl rfl rfl rfl rfl rfl ?_
   refine Pl.aj ?_
   repeat refine Pl.af ?_
   refine Pl.dH rfl ?_
   repeat refine Pl.af ?_
   refine Pl.fG ?_
   repeat refine Pl.af ?_
   refine Pl.fU (S:=fun X=>Pl.Ex w1 X) [(true,0,0),(true,1,1),(true,2,3),(true,3,7),(true,4,15),(false,5,31),(true,6,63),(true,7,127),(false,8,255)] fo Pl.aR (by kernel_rfl) (Pl.Ex.trans hE2 (Pl.Ex.drew _)) ?_
   have aJ:=Pl.Ex.drew w2
   generalize w2.drew=w3 at *
   have jX:=Pl.Ex.size aJ
   intro dL
   refine Pl.aL (.pointer (some ⟨N1,0,none⟩)) dL rfl rfl rfl rfl (fun X=>by kernel_rfl) ?_
   refine Pl.bn (part:=[.bool (decide (ma<0)),.slice Aa (limbs (Int.natAbs ma)).length ca]) (fun X hX=>Pl.Cb.ex ak hX) rfl Tryz.underlying24 rfl (by kernel_rfl) dL rfl rfl rfl rfl rfl ?_
   refine Pl.aL (.pointer (some ⟨N1,2,none⟩)) dL rfl rfl rfl rfl (fun X=>by kernel_rfl) ?_
   refine Pl.iB (v:=.int .i64 ea) Tryz.underlying3 rfl (fun X hX=>Pl.Cb.at (j:=2) (Pl.Cb.ex ak hX) rfl) dL rfl rfl rfl rfl rfl ?_
   refine Pl.qb (v:=.int .i64 (-ea)) dL rfl rfl rfl rfl rfl (fun X=>eH (by omega) X) ?_
   refine Pl.ay rfl rfl rfl rfl rfl (fun u X=>Pl.enters Tryz.func81 (by kernel_rfl) rfl u X) ?_
   refine Calls.mono (jL _ (-ea) (by omega) (by omega)) ?_
   rintro e w4 ⟨vs,rfl,hvs,aP⟩
   obtain ⟨As,cs,rfl,us⟩:=hvs
   have kY:=Pl.Ex.size aP
   have fJ:=Pl.Ex.trans dL aP
   refine ⟨_,rfl,fJ,?_⟩
   refine Pl.aL (.slice As (limbs (Int.natAbs (shl 1 (-ea)))).length cs) fJ rfl rfl rfl rfl (fun X=>by kernel_rfl) ?_
   refine Pl.aL (.agg #[.bool (decide (ma<0)),.slice Aa (limbs (Int.natAbs ma)).length ca,.slice As (limbs (Int.natAbs (shl 1 (-ea)))).length cs]) fJ rfl rfl rfl rfl (fun X=>by kernel_rfl) ?_
   refine Pl.bz (new:=[.bool (decide (ma<0)),.slice Aa (limbs (Int.natAbs ma)).length ca,.slice As (limbs (Int.natAbs (shl 1 (-ea)))).length cs]) (Pl.Cb.ex aA (Pl.Ex.trans aJ aP)) (by kernel_rfl) rfl (by simp [Value.oneCell']) rfl rfl rfl rfl rfl rfl (fun Y hY=>Pl.Ex.xs fJ hY (by omega)) ?_
   intro w5 iW bf
   have aW:=Pl.Ex.xs (Pl.Ex.trans hE2 (Pl.Ex.trans aJ aP)) iW (by omega)
   have mI:=Pl.Xs.size iW
   have hS5:=Pl.Ex.xs fJ iW (by omega)
   refine Pl.aj ?_
   have k4:=Un.xs us iW (Pl.Cb.ex aA (Pl.Ex.trans aJ aP)) (by simp)
   repeat refine Pl.af ?_
   exact Pl.aV rfl rfl bf Tryz.underlying41 rfl (by kernel_rfl) (⟨_,rfl,Qn.of (MI da.can (by omega) da.val).1 (MI da.can (by omega) da.val).2 (Un.below ua (Pl.Ex.trans hE1 aW)) k4 (da.sz.le (by omega)) (U1 (by omega) (by omega)),(Pl.Ex.trans hE1 aW)⟩)
end Go.Proofs.YtdpmbgomcjnohaaGreatDoor
