/- Sums, middles, order. -/
import Derived.Test.YtdpmbgomcjnohaaGreatDoorBaw
import Derived.Test.YtdpmbgomcjnohaaGreatDoorBag

namespace Go.Proofs.YtdpmbgomcjnohaaGreatDoor
open Go.RowKit 
set_option linter.all false
set_option maxRecDepth 100000
set_option maxHeartbeats 8000000
theorem aa' (w:World) (a b:Int):Calls Tryz.prog 67 #[.int .i64 a,.int .i64 b] w fun e w'=>e = .returned (.int .i64 (jy a b))∧Pl.Ex w w':=(Co w a b).mono fun e w' ⟨he,hw⟩=>⟨he,by rw [← hw];exact Ext.refl w⟩
theorem rlt {a b c:Rat} (h:a<b) (g:b<c):a<c:=by grind
def Csg (x y:Rat) (k:Int):Prop := -1≤k∧k≤1∧(k≠0→JB x y k)
theorem NG {x y:Rat} {j k o:Int} (hx:M0 x j) (hy:M0 y k) (h:jy j k=o):Csg x y o:=by
 have h1:=Ce h
 obtain ⟨a1,a2,a3,a4,a5⟩:=hx
 obtain ⟨b1,b2,b3,b4,b5⟩:=hy
 refine ⟨by omega,by omega,fun h0=>?_⟩
 have hne:x≠y:=fun e=>by
  subst e
  have:j=k:=M0.uniq ⟨a1,a2,a3,a4,a5⟩ ⟨b1,b2,b3,b4,b5⟩
  omega
 have hlt:j<k→x<y:=fun hjk=>by
  rcases (show j<0∨j=0∨0<j by omega) with h | h | h
  · have h3:=a3.1 h
    rcases (show k=0∨0<k by omega) with g | g
    · rw [b4.1 g];exact h3
    · exact rlt h3 (b5.1 g)
  · rw [a4.1 h];exact b5.1 (by omega)
  · omega
 have hgt:k<j→y<x:=fun hjk=>by
  rcases (show k<0∨k=0∨0<k by omega) with h | h | h
  · have h3:=b3.1 h
    rcases (show j=0∨0<j by omega) with g | g
    · rw [a4.1 g];exact h3
    · exact rlt h3 (a5.1 g)
  · rw [b4.1 h];exact a5.1 (by omega)
  · omega
 refine ⟨by omega,by omega,⟨fun h=>hlt (by omega),fun h=>?_⟩,⟨fun h=>by omega,fun h=>absurd h hne⟩,⟨fun h=>hgt (by omega),fun h=>?_⟩⟩
 · rcases (show o<0∨0<o by omega) with g | g
   · exact g
   · exact absurd (rlt h (hgt (by omega))) Rat.lt_irrefl
 · rcases (show o<0∨0<o by omega) with g | g
   · exact absurd (rlt h (hlt (by omega))) Rat.lt_irrefl
   · exact g
theorem lG (w:World) (hg:Gt w) (va vb:Value) (x y:Rat) (L J:Nat) (lo hi:Int) (ha:Dn w va x L lo hi) (hb:Dn w vb y L lo hi) (hJ:hi-lo≤32*J) (hL:L+J+1≤20000) (hlo : -900000≤lo) (hhi:hi≤900000) (lo2 hi2:Int) (h1:lo2≤lo-1) (h2:hi+32*(L+J+1:Nat)≤hi2) (h3:lo2≤0) (h4:0≤hi2) :
  Calls Tryz.prog 26 #[va,vb] w fun e w'=>∃ u,e = .returned u∧Dn w' u (x+y) (L+J+1) lo2 hi2∧Pl.Ex w w':=by
 obtain ⟨ma,ea,Aa,ca,rfl,ua,da⟩:=ha
 have CF:=da.lo
 have CG:=da.hi
 obtain ⟨mb,eb,Ab,cb,rfl,ub,db⟩:=hb
 have Ob:=db.lo
 have Oc:=db.hi
 refine Pl.bL (n:=11) (vs:=[.agg #[.bool (decide (ma<0)),.slice Aa (limbs (Int.natAbs ma)).length ca,.int .i64 ea],.agg #[.bool (decide (mb<0)),.slice Ab (limbs (Int.natAbs mb)).length cb,.int .i64 eb]]) Tryz.func26 rfl (by kernel_rfl) (by simp) ?_
 repeat refine Pl.ay ?_
 refine Pl.aB (by kernel_rfl) ?_
 refine Pl.dN (cs:=[.bool (decide (ma<0)),.slice Aa (limbs (Int.natAbs ma)).length ca,.int .i64 ea]) rfl rfl rfl rfl rfl rfl (fun Y hY=>trivial) ?_
 intro N1 w1 hE1 eP aC
 have ig:=Pl.Cb.lt aC
 have mH:=Pl.Ex.size hE1
 refine Pl.dN (cs:=[.bool (decide (mb<0)),.slice Ab (limbs (Int.natAbs mb)).length cb,.int .i64 eb]) rfl rfl rfl rfl rfl rfl (fun Y hY=>trivial) ?_
 intro N2 w2 hE2 gD aD
 have iB:=Pl.Cb.lt aD
 have mY:=Pl.Ex.size hE2
 refine Pl.aU (z:=.agg #[.bool false,.slice none 0 0,.int .i64 0]) (by kernel_rfl) rfl rfl rfl rfl (fun Y hY=>trivial) ?_
 intro N3 w3 aO jP aL
 have iJ:=Pl.Cb.lt aL
 have mZ:=Pl.Ex.size aO
 replace aL:Pl.Cb w3 N3 26 [.bool false,.slice none 0 0,.int .i64 0]:=aL
 refine Pl.af ?_
 repeat refine Pl.ay ?_
 refine Pl.aB (by kernel_rfl) ?_
 refine Pl.aU (z:=.agg #[.bool false,.slice none 0 0,.int .i64 0]) (by kernel_rfl) rfl rfl rfl rfl (fun Y hY=>trivial) ?_
 intro N4 w4 aR iG aF
 have fE:=Pl.Cb.lt aF
 have l9:=Pl.Ex.size aR
 replace aF:Pl.Cb w4 N4 26 [.bool false,.slice none 0 0,.int .i64 0]:=aF
 refine Pl.af ?_
 repeat refine Pl.ay ?_
 refine Pl.aB (by kernel_rfl) ?_
 refine Pl.dJ (part:=[.bool (decide (ma<0)),.slice Aa (limbs (Int.natAbs ma)).length ca,.int .i64 ea]) (Pl.Cb.ex aC (Pl.Ex.trans hE2 (Pl.Ex.trans aO aR))) rfl Tryz.underlying26 rfl (by kernel_rfl) trivial rfl rfl rfl rfl rfl ?_
 refine Pl.dJ (part:=[.bool (decide (mb<0)),.slice Ab (limbs (Int.natAbs mb)).length cb,.int .i64 eb]) (Pl.Cb.ex aD (Pl.Ex.trans aO aR)) rfl Tryz.underlying26 rfl (by kernel_rfl) trivial rfl rfl rfl rfl rfl ?_
 refine Pl.Ed trivial rfl rfl rfl rfl rfl rfl ?_
 refine Pl.ah rfl rfl rfl rfl rfl (fun u X=>Pl.enters Tryz.func68 (by kernel_rfl) rfl u X) ?_
 refine Calls.mono (XX _ (hg.ext (Pl.Ex.trans hE1 (Pl.Ex.trans hE2 (Pl.Ex.trans aO aR)))) N4 aF _ _ x y L J lo hi (Dn.mk (Un.below ua (Pl.Ex.trans hE1 (Pl.Ex.trans hE2 (Pl.Ex.trans aO aR)))) da.can da.val da.sz da.lo da.hi) (Dn.mk (Un.below ub (Pl.Ex.trans hE1 (Pl.Ex.trans hE2 (Pl.Ex.trans aO aR)))) db.can db.val db.sz db.lo db.hi) hJ hL hlo hhi lo2 hi2 h1 h2 h3 h4) ?_
 rintro e w5 ⟨rfl,kF,m1,e1,A1,c1,fB,u1,d1⟩
 have aP:=Pl.Ex.xs aR kF (by omega)
 have jY:=Pl.Xs.size kF
 refine ⟨_,rfl,trivial,?_⟩
 refine Pl.af ?_
 repeat refine Pl.ay ?_
 refine Pl.aB (by kernel_rfl) ?_
 refine Pl.dJ (part:=[.bool (decide (m1<0)),.slice A1 (limbs (Int.natAbs m1)).length c1,.int .i64 e1]) fB rfl Tryz.underlying26 rfl (by kernel_rfl) trivial rfl rfl rfl rfl rfl ?_
 refine Pl.bg (new:=[.bool (decide (m1<0)),.slice A1 (limbs (Int.natAbs m1)).length c1,.int .i64 e1]) (Pl.Cb.ex aL aP) (by kernel_rfl) rfl (by simp [Value.oneCell']) rfl rfl rfl rfl rfl rfl (fun Y hY=>trivial) ?_
 intro w6 lS dX
 have aM:=Pl.Ex.xs (Pl.Ex.trans aO aP) lS (by omega)
 have jr:=Pl.Xs.size lS
 have jZ:=Pl.Cb.xs fB lS (by simp;omega)
 refine Pl.af ?_
 have k5:=Un.xs u1 lS (Pl.Cb.ex aL aP) (by simp)
 repeat refine Pl.ay ?_
 exact Pl.cO rfl rfl dX Tryz.underlying26 rfl (by kernel_rfl) (⟨_,rfl,(Dn.mk k5 d1.can d1.val d1.sz d1.lo d1.hi),(Pl.Ex.trans hE1 (Pl.Ex.trans hE2 aM))⟩)
theorem zo (w:World) (hg:Gt w) (va vb:Value) (x y:Rat) (L J:Nat) (lo hi:Int) (ha:Dn w va x L lo hi) (hb:Dn w vb y L lo hi) (hJ:hi-lo≤32*J) (hL:L+J+1≤20000) (hlo : -900000≤lo) (hhi:hi≤900000) (lo2 hi2:Int) (h1:lo2≤lo-1) (h2:hi+32*(L+J+1:Nat)≤hi2) (h3:lo2≤0) (h4:0≤hi2) :
  Calls Tryz.prog 32 #[va,vb] w fun e w'=>∃ u,e = .returned u∧Dn w' u ((x+y)/2) (L+J+1) lo2 hi2∧Pl.Ex w w':=by
 obtain ⟨ma,ea,Aa,ca,rfl,ua,da⟩:=ha
 have CF:=da.lo
 have CG:=da.hi
 obtain ⟨mb,eb,Ab,cb,rfl,ub,db⟩:=hb
 have Ob:=db.lo
 have Oc:=db.hi
 refine Pl.bL (n:=11) (vs:=[.agg #[.bool (decide (ma<0)),.slice Aa (limbs (Int.natAbs ma)).length ca,.int .i64 ea],.agg #[.bool (decide (mb<0)),.slice Ab (limbs (Int.natAbs mb)).length cb,.int .i64 eb]]) Tryz.func32 rfl (by kernel_rfl) (by simp) ?_
 repeat refine Pl.ay ?_
 refine Pl.aB (by kernel_rfl) ?_
 refine Pl.dN (cs:=[.bool (decide (ma<0)),.slice Aa (limbs (Int.natAbs ma)).length ca,.int .i64 ea]) rfl rfl rfl rfl rfl rfl (fun Y hY=>trivial) ?_
 intro N1 w1 hE1 eP aC
 have ig:=Pl.Cb.lt aC
 have mH:=Pl.Ex.size hE1
 refine Pl.dN (cs:=[.bool (decide (mb<0)),.slice Ab (limbs (Int.natAbs mb)).length cb,.int .i64 eb]) rfl rfl rfl rfl rfl rfl (fun Y hY=>trivial) ?_
 intro N2 w2 hE2 gD aD
 have iB:=Pl.Cb.lt aD
 have mY:=Pl.Ex.size hE2
 refine Pl.aU (z:=.agg #[.bool false,.slice none 0 0,.int .i64 0]) (by kernel_rfl) rfl rfl rfl rfl (fun Y hY=>trivial) ?_
 intro N3 w3 aO jP aL
 have iJ:=Pl.Cb.lt aL
 have mZ:=Pl.Ex.size aO
 replace aL:Pl.Cb w3 N3 26 [.bool false,.slice none 0 0,.int .i64 0]:=aL
 refine Pl.af ?_
 repeat refine Pl.ay ?_
 refine Pl.aB (by kernel_rfl) ?_
 refine Pl.aU (z:=.agg #[.bool false,.slice none 0 0,.int .i64 0]) (by kernel_rfl) rfl rfl rfl rfl (fun Y hY=>trivial) ?_
 intro N4 w4 aR iG aF
 have fE:=Pl.Cb.lt aF
 have l9:=Pl.Ex.size aR
 replace aF:Pl.Cb w4 N4 26 [.bool false,.slice none 0 0,.int .i64 0]:=aF
 refine Pl.af ?_
 repeat refine Pl.ay ?_
 refine Pl.aB (by kernel_rfl) ?_
 refine Pl.dJ (part:=[.bool (decide (ma<0)),.slice Aa (limbs (Int.natAbs ma)).length ca,.int .i64 ea]) (Pl.Cb.ex aC (Pl.Ex.trans hE2 (Pl.Ex.trans aO aR))) rfl Tryz.underlying26 rfl (by kernel_rfl) trivial rfl rfl rfl rfl rfl ?_
 refine Pl.dJ (part:=[.bool (decide (mb<0)),.slice Ab (limbs (Int.natAbs mb)).length cb,.int .i64 eb]) (Pl.Cb.ex aD (Pl.Ex.trans aO aR)) rfl Tryz.underlying26 rfl (by kernel_rfl) trivial rfl rfl rfl rfl rfl ?_
 refine Pl.Ed trivial rfl rfl rfl rfl rfl rfl ?_
 refine Pl.ah rfl rfl rfl rfl rfl (fun u X=>Pl.enters Tryz.func68 (by kernel_rfl) rfl u X) ?_
 refine Calls.mono (X0 _ (hg.ext (Pl.Ex.trans hE1 (Pl.Ex.trans hE2 (Pl.Ex.trans aO aR)))) N4 aF _ _ x y L J lo hi (Dn.mk (Un.below ua (Pl.Ex.trans hE1 (Pl.Ex.trans hE2 (Pl.Ex.trans aO aR)))) da.can da.val da.sz da.lo da.hi) (Dn.mk (Un.below ub (Pl.Ex.trans hE1 (Pl.Ex.trans hE2 (Pl.Ex.trans aO aR)))) db.can db.val db.sz db.lo db.hi) hJ hL hlo hhi lo2 hi2 h1 h2 h3 h4) ?_
 rintro e w5 ⟨rfl,kF,m1,e1,A1,c1,fB,u1,d1⟩
 have aP:=Pl.Ex.xs aR kF (by omega)
 have jY:=Pl.Xs.size kF
 refine ⟨_,rfl,trivial,?_⟩
 refine Pl.af ?_
 repeat refine Pl.ay ?_
 refine Pl.aB (by kernel_rfl) ?_
 refine Pl.dJ (part:=[.bool (decide (m1<0)),.slice A1 (limbs (Int.natAbs m1)).length c1,.int .i64 e1]) fB rfl Tryz.underlying26 rfl (by kernel_rfl) trivial rfl rfl rfl rfl rfl ?_
 refine Pl.bg (new:=[.bool (decide (m1<0)),.slice A1 (limbs (Int.natAbs m1)).length c1,.int .i64 e1]) (Pl.Cb.ex aL aP) (by kernel_rfl) rfl (by simp [Value.oneCell']) rfl rfl rfl rfl rfl rfl (fun Y hY=>trivial) ?_
 intro w6 lS dX
 have aM:=Pl.Ex.xs (Pl.Ex.trans aO aP) lS (by omega)
 have jr:=Pl.Xs.size lS
 have jZ:=Pl.Cb.xs fB lS (by simp;omega)
 refine Pl.af ?_
 have k5:=Un.xs u1 lS (Pl.Cb.ex aL aP) (by simp)
 repeat refine Pl.ay ?_
 exact Pl.cO rfl rfl dX Tryz.underlying26 rfl (by kernel_rfl) (⟨_,rfl,(Dn.mk k5 d1.can d1.val d1.sz d1.lo d1.hi),(Pl.Ex.trans hE1 (Pl.Ex.trans hE2 aM))⟩)
theorem vU (w:World) (hg:Gt w) (va vb:Value) (x y:Rat) (L J:Nat) (lo hi:Int) (ha:Dn w va x L lo hi) (hb:Dn w vb y L lo hi) (hJ:hi-lo≤32*J) (hL:L+J+1≤20000) (hlo : -900000≤lo) (hhi:hi≤900000) (lo2 hi2:Int) (h1:lo2≤lo-1) (h2:hi+32*(L+J+1:Nat)≤hi2) (h3:lo2≤0) (h4:0≤hi2) :
  Calls Tryz.prog 20 #[va,vb] w fun e w'=>∃ k:Int,e = .returned (.int .i64 k)∧JB x y k∧Pl.Ex w w':=by
 obtain ⟨ma,ea,Aa,ca,rfl,ua,da⟩:=ha
 have CF:=da.lo
 have CG:=da.hi
 obtain ⟨mb,eb,Ab,cb,rfl,ub,db⟩:=hb
 have Ob:=db.lo
 have Oc:=db.hi
 refine Pl.bL (n:=19) (vs:=[.agg #[.bool (decide (ma<0)),.slice Aa (limbs (Int.natAbs ma)).length ca,.int .i64 ea],.agg #[.bool (decide (mb<0)),.slice Ab (limbs (Int.natAbs mb)).length cb,.int .i64 eb]]) Tryz.func20 rfl (by kernel_rfl) (by simp) ?_
 repeat refine Pl.ay ?_
 refine Pl.aB (by kernel_rfl) ?_
 refine Pl.dN (cs:=[.bool (decide (ma<0)),.slice Aa (limbs (Int.natAbs ma)).length ca,.int .i64 ea]) rfl rfl rfl rfl rfl rfl (fun Y hY=>trivial) ?_
 intro N1 w1 hE1 eP aC
 have ig:=Pl.Cb.lt aC
 have mH:=Pl.Ex.size hE1
 refine Pl.dN (cs:=[.bool (decide (mb<0)),.slice Ab (limbs (Int.natAbs mb)).length cb,.int .i64 eb]) rfl rfl rfl rfl rfl rfl (fun Y hY=>trivial) ?_
 intro N2 w2 hE2 gD aD
 have iB:=Pl.Cb.lt aD
 have mY:=Pl.Ex.size hE2
 refine Pl.aG trivial rfl ?_
 refine Pl.af ?_
 repeat refine Pl.ay ?_
 refine Pl.Cg (fun l' w'=>∃ (No:Nat) (ko:Int),Pl.Ex w2 w'∧(Pl.Cb w' No 3 [.int .i64 ko])∧(w2.heap.size≤No)∧(Csg x y ko)∧l'=[(2,.pointer (some ⟨N1,0,none⟩)),(3,.pointer (some ⟨N2,0,none⟩)),(4,.int .i64 0),(5,.pointer (some ⟨No,0,none⟩))]) ?_ fun qI=>?_
 · rintro _ w3 ⟨No,ko,aO,kNo,hNo,hko,rfl⟩
   have mZ:=Pl.Ex.size aO
   have bko : -1≤ko∧ko≤1:=⟨hko.1,hko.2.1⟩
   repeat refine Pl.ay ?_
   refine Pl.aB (by kernel_rfl) ?_
   refine Pl.eT (v:=.int .i64 ko) Tryz.underlying3 rfl (Pl.Cb.at (j:=0) kNo rfl) trivial rfl rfl rfl rfl rfl ?_
   by_cases c4:ko≠0
   · refine Pl.dO (v:=.bool true) (fun X=>XU c4 X) trivial rfl rfl rfl rfl rfl rfl ?_
     refine Pl.af ?_
     repeat refine Pl.ay ?_
     refine Pl.iO rfl ?_
     repeat refine Pl.ay ?_
     refine Pl.aB (by kernel_rfl) ?_
     refine Pl.eT (v:=.int .i64 ko) Tryz.underlying3 rfl (Pl.Cb.at (j:=0) kNo rfl) trivial rfl rfl rfl rfl rfl ?_
     refine Pl.aG trivial rfl ?_
     refine Pl.af ?_
     repeat refine Pl.ay ?_
     exact Pl.dU rfl rfl  (⟨ko,rfl,hko.2.2 c4,(Pl.Ex.trans hE1 (Pl.Ex.trans hE2 aO))⟩)
   · refine Pl.dO (v:=.bool false) (fun X=>Kc c4 X) trivial rfl rfl rfl rfl rfl rfl ?_
     refine Pl.af ?_
     repeat refine Pl.ay ?_
     refine Pl.gm rfl ?_
     repeat refine Pl.ay ?_
     refine Pl.iK ?_
     repeat refine Pl.ay ?_
     refine Pl.aB (by kernel_rfl) ?_
     obtain rfl:ko=0:=by have:=c4;omega
     refine Pl.dJ (part:=[.bool (decide (ma<0)),.slice Aa (limbs (Int.natAbs ma)).length ca,.int .i64 ea]) (Pl.Cb.ex aC (Pl.Ex.trans hE2 aO)) rfl Tryz.underlying26 rfl (by kernel_rfl) trivial rfl rfl rfl rfl rfl ?_
     refine Pl.dJ (part:=[.bool (decide (mb<0)),.slice Ab (limbs (Int.natAbs mb)).length cb,.int .i64 eb]) (Pl.Cb.ex aD aO) rfl Tryz.underlying26 rfl (by kernel_rfl) trivial rfl rfl rfl rfl rfl ?_
     refine Pl.Ed trivial rfl rfl rfl rfl rfl rfl ?_
     refine Pl.ah rfl rfl rfl rfl rfl (fun u X=>Pl.enters Tryz.func68 (by kernel_rfl) rfl u X) ?_
     refine Calls.mono (X3 _ (hg.ext (Pl.Ex.trans hE1 (Pl.Ex.trans hE2 aO))) No kNo _ _ x y L J lo hi (Dn.mk (Un.below ua (Pl.Ex.trans hE1 (Pl.Ex.trans hE2 aO))) da.can da.val da.sz da.lo da.hi) (Dn.mk (Un.below ub (Pl.Ex.trans hE1 (Pl.Ex.trans hE2 aO))) db.can db.val db.sz db.lo db.hi) hJ hL hlo hhi lo2 hi2 h1 h2 h3 h4) ?_
     rintro e w4 ⟨rfl,yH,kk,aey,hk⟩
     have aR:=Pl.Ex.xs aO yH (by omega)
     have l9:=Pl.Xs.size yH
     refine ⟨_,rfl,trivial,?_⟩
     refine Pl.af ?_
     repeat refine Pl.ay ?_
     refine Pl.aB (by kernel_rfl) ?_
     refine Pl.eT (v:=.int .i64 kk) Tryz.underlying3 rfl (Pl.Cb.at (j:=0) aey rfl) trivial rfl rfl rfl rfl rfl ?_
     refine Pl.aG trivial rfl ?_
     refine Pl.af ?_
     repeat refine Pl.ay ?_
     exact Pl.dU rfl rfl  (⟨kk,rfl,hk,(Pl.Ex.trans hE1 (Pl.Ex.trans hE2 aR))⟩)
 · repeat refine Pl.ay ?_
   refine Pl.nG (S:=fun X=>Pl.Ex w2 X) fo (Pl.Ex.trans (Pl.Ex.refl _) (Pl.Ex.drew _)) ?_
   have aO:=Pl.Ex.drew w2
   generalize w2.drew=w3 at *
   have mZ:=Pl.Ex.size aO
   intro eY
   refine Pl.aZ [(true,0,0),(true,2,1)] 5 5 Pl.az (by kernel_rfl) (by kernel_rfl) (by kernel_rfl) ?_
   refine Pl.bT (part:=[.bool (decide (ma<0)),.slice Aa (limbs (Int.natAbs ma)).length ca,.int .i64 ea]) (fun X hX=>Pl.Cb.ex (Pl.Cb.ex aC hE2) hX) rfl Tryz.underlying26 rfl (by kernel_rfl) eY rfl rfl rfl rfl rfl ?_
   refine Pl.bT (part:=[.bool (decide (mb<0)),.slice Ab (limbs (Int.natAbs mb)).length cb,.int .i64 eb]) (fun X hX=>Pl.Cb.ex aD hX) rfl Tryz.underlying26 rfl (by kernel_rfl) eY rfl rfl rfl rfl rfl ?_
   refine Pl.af ?_
   refine Pl.cB [1,5] 4 (by kernel_rfl) (by kernel_rfl) (by kernel_rfl) (Pl.aj ?_ (Pl.aj ?_ Pl.aJ))
   · refine Pl.ah rfl rfl rfl rfl rfl (fun u X=>Pl.enters Tryz.func22 (by kernel_rfl) rfl u X) ?_
     refine Calls.mono (qj _ _ x _ _ _ (Dn.mk (Un.below ua (Pl.Ex.trans hE1 (Pl.Ex.trans hE2 aO))) da.can da.val da.sz da.lo da.hi)) ?_
     rintro e w4 ⟨k4,rfl,LK,aR⟩
     have bk4:=(show -1≤k4∧k4≤1 from ⟨LK.1,LK.2.1⟩)
     have l9:=Pl.Ex.size aR
     have dP:=Pl.Ex.trans eY aR
     refine ⟨_,rfl,dP,?_⟩
     refine Pl.af ?_
     refine Pl.cB [3,5] 3 (by kernel_rfl) (by kernel_rfl) (by kernel_rfl) (Pl.aj ?_ (Pl.aj ?_ Pl.aJ))
     · refine Pl.ah rfl rfl rfl rfl rfl (fun u X=>Pl.enters Tryz.func22 (by kernel_rfl) rfl u X) ?_
       refine Calls.mono (qj _ _ y _ _ _ (Dn.mk (Un.below ub (Pl.Ex.trans hE1 (Pl.Ex.trans hE2 (Pl.Ex.trans aO aR)))) db.can db.val db.sz db.lo db.hi)) ?_
       rintro e w5 ⟨k5,rfl,gk5,aP⟩
       have bk5:=(show -1≤k5∧k5≤1 from ⟨gk5.1,gk5.2.1⟩)
       have jY:=Pl.Ex.size aP
       have hS5:=Pl.Ex.trans dP aP
       refine ⟨_,rfl,hS5,?_⟩
       refine Pl.af ?_
       refine Pl.cB [4,5] 2 (by kernel_rfl) (by kernel_rfl) (by kernel_rfl) (Pl.aj ?_ (Pl.aj ?_ Pl.aJ))
       · refine Pl.ah rfl rfl rfl rfl rfl (fun u X=>Pl.enters Tryz.func67 (by kernel_rfl) rfl u X) ?_
         refine Calls.mono (aa' _ k4 k5) ?_
         rintro e w6 ⟨rfl,aM⟩
         obtain ⟨k6,qk6⟩:∃ q,jy k4 k5=q:=⟨_,rfl⟩
         rw [qk6]
         have jr:=Pl.Ex.size aM
         have bS:=Pl.Ex.trans hS5 aM
         refine ⟨_,rfl,bS,?_⟩
         refine Pl.af ?_
         refine Pl.aZ [(false,5,31),(false,6,63)] 127 0 Pl.az (by kernel_rfl) (by kernel_rfl) (by kernel_rfl) ?_
         refine Pl.aU (z:=.int .i64 0) (by kernel_rfl) rfl rfl rfl rfl (fun Y hY=>Pl.Ex.trans bS hY) ?_
         intro N7 w7 aH O3 oo
         have jL:=Pl.Cb.lt oo
         have iU:=Pl.Ex.size aH
         replace oo:Pl.Cb w7 N7 3 [.int .i64 0]:=oo
         have bE:=Pl.Ex.trans bS aH
         refine Pl.KZ (j:=0) (u:=.int .i64 k6) oo (by simp) (by kernel_rfl) rfl rfl rfl rfl rfl rfl rfl rfl (fun Y hY=>Pl.Ex.xs bE hY (by omega)) ?_
         intro w8 eX EN
         have bu:=Pl.Ex.xs aH eX (by omega)
         replace EN:Pl.Cb w8 N7 3 [.int .i64 k6]:=EN
         have mh:=Pl.Xs.size eX
         have bD:=Pl.Ex.xs bE eX (by omega)
         refine Pl.af ?_
         refine Pl.tK (by kernel_rfl) ?_
         refine Pl.jv [(2,.pointer (some ⟨N1,0,none⟩)),(3,.pointer (some ⟨N2,0,none⟩)),(4,.int .i64 0),(5,.pointer (some ⟨N7,0,none⟩))] (Pl.aa rfl (Pl.aa rfl (Pl.aa rfl (Pl.aa rfl Pl.aA)))) ?_
         exact qI _ _ ⟨N7,k6,(Pl.Ex.trans aO (Pl.Ex.trans aR (Pl.Ex.trans aP (Pl.Ex.trans aM bu)))),EN,(by omega),NG LK gk5 qk6,rfl⟩
       · refine Pl.aU (z:=.int .i64 0) (by kernel_rfl) rfl rfl rfl rfl (fun Y hY=>Pl.Ex.trans hS5 hY) ?_
         intro N6 w6 aM qJ dz
         have iL:=Pl.Cb.lt dz
         have jr:=Pl.Ex.size aM
         replace dz:Pl.Cb w6 N6 3 [.int .i64 0]:=dz
         have bS:=Pl.Ex.trans hS5 aM
         refine Pl.af ?_
         refine Pl.aZ [(false,4,47),(false,6,63)] 127 0 Pl.az (by kernel_rfl) (by kernel_rfl) (by kernel_rfl) ?_
         refine Pl.ah rfl rfl rfl rfl rfl (fun u X=>Pl.enters Tryz.func67 (by kernel_rfl) rfl u X) ?_
         refine Calls.mono (aa' _ k4 k5) ?_
         rintro e w7 ⟨rfl,aH⟩
         obtain ⟨k7,qk7⟩:∃ q,jy k4 k5=q:=⟨_,rfl⟩
         rw [qk7]
         have iU:=Pl.Ex.size aH
         have bE:=Pl.Ex.trans bS aH
         refine ⟨_,rfl,bE,?_⟩
         refine Pl.KZ (j:=0) (u:=.int .i64 k7) (Pl.Cb.ex dz aH) (by simp) (by kernel_rfl) rfl rfl rfl rfl rfl rfl rfl rfl (fun Y hY=>Pl.Ex.xs bE hY (by omega)) ?_
         intro w8 eX gX
         have bu:=Pl.Ex.xs (Pl.Ex.trans aM aH) eX (by omega)
         replace gX:Pl.Cb w8 N6 3 [.int .i64 k7]:=gX
         have mh:=Pl.Xs.size eX
         have bD:=Pl.Ex.xs bE eX (by omega)
         refine Pl.af ?_
         refine Pl.tK (by kernel_rfl) ?_
         refine Pl.jv [(2,.pointer (some ⟨N1,0,none⟩)),(3,.pointer (some ⟨N2,0,none⟩)),(4,.int .i64 0),(5,.pointer (some ⟨N6,0,none⟩))] (Pl.aa rfl (Pl.aa rfl (Pl.aa rfl (Pl.aa rfl Pl.aA)))) ?_
         exact qI _ _ ⟨N6,k7,(Pl.Ex.trans aO (Pl.Ex.trans aR (Pl.Ex.trans aP bu))),gX,(by omega),NG LK gk5 qk7,rfl⟩
     · refine Pl.aU (z:=.int .i64 0) (by kernel_rfl) rfl rfl rfl rfl (fun Y hY=>Pl.Ex.trans dP hY) ?_
       intro N5 w5 aP qN cK
       have iy:=Pl.Cb.lt cK
       have jY:=Pl.Ex.size aP
       replace cK:Pl.Cb w5 N5 3 [.int .i64 0]:=cK
       have hS5:=Pl.Ex.trans dP aP
       refine Pl.af ?_
       refine Pl.aZ [(false,3,39),(false,4,47),(false,6,63)] 127 0 Pl.az (by kernel_rfl) (by kernel_rfl) (by kernel_rfl) ?_
       refine Pl.ah rfl rfl rfl rfl rfl (fun u X=>Pl.enters Tryz.func22 (by kernel_rfl) rfl u X) ?_
       refine Calls.mono (qj _ _ y _ _ _ (Dn.mk (Un.below ub (Pl.Ex.trans hE1 (Pl.Ex.trans hE2 (Pl.Ex.trans aO (Pl.Ex.trans aR aP))))) db.can db.val db.sz db.lo db.hi)) ?_
       rintro e w6 ⟨k6,rfl,TG,aM⟩
       have bk6:=(show -1≤k6∧k6≤1 from ⟨TG.1,TG.2.1⟩)
       have jr:=Pl.Ex.size aM
       have bS:=Pl.Ex.trans hS5 aM
       refine ⟨_,rfl,bS,?_⟩
       refine Pl.ah rfl rfl rfl rfl rfl (fun u X=>Pl.enters Tryz.func67 (by kernel_rfl) rfl u X) ?_
       refine Calls.mono (aa' _ k4 k6) ?_
       rintro e w7 ⟨rfl,aH⟩
       obtain ⟨k7,qk7⟩:∃ q,jy k4 k6=q:=⟨_,rfl⟩
       rw [qk7]
       have iU:=Pl.Ex.size aH
       have bE:=Pl.Ex.trans bS aH
       refine ⟨_,rfl,bE,?_⟩
       refine Pl.KZ (j:=0) (u:=.int .i64 k7) (Pl.Cb.ex cK (Pl.Ex.trans aM aH)) (by simp) (by kernel_rfl) rfl rfl rfl rfl rfl rfl rfl rfl (fun Y hY=>Pl.Ex.xs bE hY (by omega)) ?_
       intro w8 eX je
       have bu:=Pl.Ex.xs (Pl.Ex.trans aP (Pl.Ex.trans aM aH)) eX (by omega)
       replace je:Pl.Cb w8 N5 3 [.int .i64 k7]:=je
       have mh:=Pl.Xs.size eX
       have bD:=Pl.Ex.xs bE eX (by omega)
       refine Pl.af ?_
       refine Pl.tK (by kernel_rfl) ?_
       refine Pl.jv [(2,.pointer (some ⟨N1,0,none⟩)),(3,.pointer (some ⟨N2,0,none⟩)),(4,.int .i64 0),(5,.pointer (some ⟨N5,0,none⟩))] (Pl.aa rfl (Pl.aa rfl (Pl.aa rfl (Pl.aa rfl Pl.aA)))) ?_
       exact qI _ _ ⟨N5,k7,(Pl.Ex.trans aO (Pl.Ex.trans aR bu)),je,(by omega),NG LK TG qk7,rfl⟩
   · refine Pl.aU (z:=.int .i64 0) (by kernel_rfl) rfl rfl rfl rfl (fun Y hY=>Pl.Ex.trans eY hY) ?_
     intro N4 w4 aR iG aF
     have fE:=Pl.Cb.lt aF
     have l9:=Pl.Ex.size aR
     replace aF:Pl.Cb w4 N4 3 [.int .i64 0]:=aF
     have dP:=Pl.Ex.trans eY aR
     refine Pl.af ?_
     refine Pl.aZ [(false,1,37),(false,3,39),(false,4,47),(false,6,63)] 127 0 Pl.az (by kernel_rfl) (by kernel_rfl) (by kernel_rfl) ?_
     refine Pl.ah rfl rfl rfl rfl rfl (fun u X=>Pl.enters Tryz.func22 (by kernel_rfl) rfl u X) ?_
     refine Calls.mono (qj _ _ x _ _ _ (Dn.mk (Un.below ua (Pl.Ex.trans hE1 (Pl.Ex.trans hE2 (Pl.Ex.trans aO aR)))) da.can da.val da.sz da.lo da.hi)) ?_
     rintro e w5 ⟨k5,rfl,gk5,aP⟩
     have bk5:=(show -1≤k5∧k5≤1 from ⟨gk5.1,gk5.2.1⟩)
     have jY:=Pl.Ex.size aP
     have hS5:=Pl.Ex.trans dP aP
     refine ⟨_,rfl,hS5,?_⟩
     refine Pl.ah rfl rfl rfl rfl rfl (fun u X=>Pl.enters Tryz.func22 (by kernel_rfl) rfl u X) ?_
     refine Calls.mono (qj _ _ y _ _ _ (Dn.mk (Un.below ub (Pl.Ex.trans hE1 (Pl.Ex.trans hE2 (Pl.Ex.trans aO (Pl.Ex.trans aR aP))))) db.can db.val db.sz db.lo db.hi)) ?_
     rintro e w6 ⟨k6,rfl,TG,aM⟩
     have bk6:=(show -1≤k6∧k6≤1 from ⟨TG.1,TG.2.1⟩)
     have jr:=Pl.Ex.size aM
     have bS:=Pl.Ex.trans hS5 aM
     refine ⟨_,rfl,bS,?_⟩
     refine Pl.ah rfl rfl rfl rfl rfl (fun u X=>Pl.enters Tryz.func67 (by kernel_rfl) rfl u X) ?_
     refine Calls.mono (aa' _ k5 k6) ?_
     rintro e w7 ⟨rfl,aH⟩
     obtain ⟨k7,qk7⟩:∃ q,jy k5 k6=q:=⟨_,rfl⟩
     rw [qk7]
     have iU:=Pl.Ex.size aH
     have bE:=Pl.Ex.trans bS aH
     refine ⟨_,rfl,bE,?_⟩
     refine Pl.KZ (j:=0) (u:=.int .i64 k7) (Pl.Cb.ex aF (Pl.Ex.trans aP (Pl.Ex.trans aM aH))) (by simp) (by kernel_rfl) rfl rfl rfl rfl rfl rfl rfl rfl (fun Y hY=>Pl.Ex.xs bE hY (by omega)) ?_
     intro w8 eX fB
     have bu:=Pl.Ex.xs (Pl.Ex.trans aR (Pl.Ex.trans aP (Pl.Ex.trans aM aH))) eX (by omega)
     replace fB:Pl.Cb w8 N4 3 [.int .i64 k7]:=fB
     have mh:=Pl.Xs.size eX
     have bD:=Pl.Ex.xs bE eX (by omega)
     refine Pl.af ?_
     refine Pl.tK (by kernel_rfl) ?_
     refine Pl.jv [(2,.pointer (some ⟨N1,0,none⟩)),(3,.pointer (some ⟨N2,0,none⟩)),(4,.int .i64 0),(5,.pointer (some ⟨N4,0,none⟩))] (Pl.aa rfl (Pl.aa rfl (Pl.aa rfl (Pl.aa rfl Pl.aA)))) ?_
     exact qI _ _ ⟨N4,k7,(Pl.Ex.trans aO bu),fB,(by omega),NG gk5 TG qk7,rfl⟩
end Go.Proofs.YtdpmbgomcjnohaaGreatDoor
/- Differences, products, floors; as rationals. -/
namespace Go.Proofs.YtdpmbgomcjnohaaGreatDoor
open Go.RowKit 
set_option linter.all false
set_option maxRecDepth 100000
set_option maxHeartbeats 8000000
theorem R3 (w:World)  :
  Calls Tryz.prog 116 #[] w fun e w'=>∃ u,e = .returned u∧Un w' u 1∧Pl.Ex w w':=by
 refine Pl.bL (n:=2) (vs:=[]) Tryz.func116 rfl (by kernel_rfl) (by simp) ?_
 repeat refine Pl.ay ?_
 refine Pl.aB (by kernel_rfl) ?_
 refine Pl.aG trivial rfl ?_
 refine Pl.af ?_
 repeat refine Pl.ay ?_
 refine Pl.aB (by kernel_rfl) ?_
 refine Pl.F3 (e := 67) (n:=1) [.int .u32 1] rfl rfl rfl rfl (by kernel_rfl) (fun Y hY=>trivial) ?_
 intro N1 w1 hE1 eP aC
 have ig:=Pl.Cb.lt aC
 have mH:=Pl.Ex.size hE1
 refine Pl.aG trivial rfl ?_
 refine Pl.af ?_
 have hl2:=Un.one (x:=1) aC rfl (by omega)
 repeat refine Pl.ay ?_
 exact Pl.dU rfl rfl  (⟨_,rfl,hl2,hE1⟩)
theorem Qn.of {w:World} {A A2:Option Addr} {c c2 L M d l2:Nat} {n:Int} {q:Rat} (h1:q.num=n) (h2:q.den=d) (u:Un w (.slice A (limbs n.natAbs).length c) n.natAbs) (u2:Un w (.slice A2 l2 c2) d) (h3:Sz n L) (h4:Sn d M) :
  Qn w (.agg #[.bool (decide (n<0)),.slice A (limbs n.natAbs).length c,.slice A2 l2 c2]) q L M:=by
 subst h1 h2
 obtain rfl:l2=_:=u2.len
 exact Qn.mk u u2 h3 h4
theorem NH (w:World) (vn:Value) (n:Int) (L:Nat) (hn:Zn w vn n) (ln:Sz n L) :
  Calls Tryz.prog 80 #[vn] w fun e w'=>∃ u,e = .returned u∧Qn w' u ((n:Int):Rat) L 1∧Pl.Ex w w':=by
 obtain ⟨An,cn,rfl,un⟩:=hn
 refine Pl.bL (n:=6) (vs:=[.agg #[.bool (decide (n<0)),.slice An (limbs (Int.natAbs n)).length cn]]) Tryz.func80 rfl (by kernel_rfl) (by simp) ?_
 repeat refine Pl.ay ?_
 refine Pl.aB (by kernel_rfl) ?_
 refine Pl.dN (cs:=[.bool (decide (n<0)),.slice An (limbs (Int.natAbs n)).length cn]) rfl rfl rfl rfl rfl rfl (fun Y hY=>trivial) ?_
 intro N1 w1 hE1 eP aC
 have ig:=Pl.Cb.lt aC
 have mH:=Pl.Ex.size hE1
 refine Pl.aU (z:=.agg #[.bool false,.slice none 0 0,.slice none 0 0]) (by kernel_rfl) rfl rfl rfl rfl (fun Y hY=>trivial) ?_
 intro N2 w2 hE2 gD aD
 have iB:=Pl.Cb.lt aD
 have mY:=Pl.Ex.size hE2
 replace aD:Pl.Cb w2 N2 41 [.bool false,.slice none 0 0,.slice none 0 0]:=aD
 refine Pl.af ?_
 repeat refine Pl.ay ?_
 refine Pl.fJ (S:=fun X=>Pl.Ex w1 X) [(true,0,0),(false,1,1),(true,2,3),(false,3,7)] fo Pl.az (by kernel_rfl) (Pl.Ex.trans hE2 (Pl.Ex.drew _)) ?_
 have aO:=Pl.Ex.drew w2
 generalize w2.drew=w3 at *
 have mZ:=Pl.Ex.size aO
 intro eY
 refine Pl.bT (part:=[.bool (decide (n<0)),.slice An (limbs (Int.natAbs n)).length cn]) (fun X hX=>Pl.Cb.ex aC hX) rfl Tryz.underlying24 rfl (by kernel_rfl) eY rfl rfl rfl rfl rfl ?_
 refine Pl.ah rfl rfl rfl rfl rfl (fun u X=>Pl.enters Tryz.func116 (by kernel_rfl) rfl u X) ?_
 refine Calls.mono (R3 _) ?_
 rintro e w4 ⟨v3,rfl,hv3,aR⟩
 have l9:=Pl.Ex.size aR
 have dP:=Pl.Ex.trans eY aR
 refine ⟨_,rfl,dP,?_⟩
 obtain ⟨A4,c5,rfl⟩:=Un.sh8 hv3
 refine Pl.bC (.agg #[.bool (decide (n<0)),.slice An (limbs (Int.natAbs n)).length cn,(.slice A4 (limbs 1).length c5)]) dP rfl rfl rfl rfl (fun X=>by kernel_rfl) ?_
 refine Pl.bg (new:=[.bool (decide (n<0)),.slice An (limbs (Int.natAbs n)).length cn,(.slice A4 (limbs 1).length c5)]) (Pl.Cb.ex aD (Pl.Ex.trans aO aR)) (by kernel_rfl) rfl (by simp [Value.oneCell']) rfl rfl rfl rfl rfl rfl (fun Y hY=>Pl.Ex.xs dP hY (by omega)) ?_
 intro w5 kF dG
 have aP:=Pl.Ex.xs (Pl.Ex.trans hE2 (Pl.Ex.trans aO aR)) kF (by omega)
 have jY:=Pl.Xs.size kF
 have hS5:=Pl.Ex.xs dP kF (by omega)
 refine Pl.af ?_
 have k6:=Un.xs hv3 kF (Pl.Cb.ex aD (Pl.Ex.trans aO aR)) (by simp)
 repeat refine Pl.ay ?_
 exact Pl.cO rfl rfl dG Tryz.underlying41 rfl (by kernel_rfl) (⟨_,rfl,Qn.of (q:=((n:Int):Rat)) rfl rfl (Un.below un (Pl.Ex.trans hE1 aP)) k6 ln (show Sn 1 1 from Sn.of (by decide)),(Pl.Ex.trans hE1 aP)⟩)
theorem xX (w:World) (va:Value) (x:Rat) (n:Int) (L:Nat) (lo hi:Int) (ha:Dn w va x L lo hi) (hL:L≤100000) (hlo : -100000≤lo) (hhi:hi≤100000) (hn : -100000≤n∧n≤100000) :
  Calls Tryz.prog 44 #[va,.int .i64 n] w fun e w'=>∃ u,e = .returned u∧Zn w' u ((x*2^n).floor)∧Pl.Ex w w':=by
 obtain ⟨ma,ea,Aa,ca,rfl,ua,da⟩:=ha
 have CF:=da.lo
 have CG:=da.hi
 refine Pl.bL (n:=12) (vs:=[.agg #[.bool (decide (ma<0)),.slice Aa (limbs (Int.natAbs ma)).length ca,.int .i64 ea],.int .i64 n]) Tryz.func44 rfl (by kernel_rfl) (by simp) ?_
 repeat refine Pl.ay ?_
 refine Pl.aB (by kernel_rfl) ?_
 refine Pl.dN (cs:=[.bool (decide (ma<0)),.slice Aa (limbs (Int.natAbs ma)).length ca,.int .i64 ea]) rfl rfl rfl rfl rfl rfl (fun Y hY=>trivial) ?_
 intro N1 w1 hE1 eP aC
 have ig:=Pl.Cb.lt aC
 have mH:=Pl.Ex.size hE1
 refine Pl.aU (z:=.agg #[.bool false,.slice none 0 0]) (by kernel_rfl) rfl rfl rfl rfl (fun Y hY=>trivial) ?_
 intro N2 w2 hE2 gD aD
 have iB:=Pl.Cb.lt aD
 have mY:=Pl.Ex.size hE2
 replace aD:Pl.Cb w2 N2 24 [.bool false,.slice none 0 0]:=aD
 refine Pl.af ?_
 repeat refine Pl.ay ?_
 refine Pl.aB (by kernel_rfl) ?_
 refine Pl.bC (.pointer (some ⟨N1,0,none⟩)) trivial rfl rfl rfl rfl (fun X=>by kernel_rfl) ?_
 refine Pl.dJ (part:=[.bool (decide (ma<0)),.slice Aa (limbs (Int.natAbs ma)).length ca]) (Pl.Cb.ex aC hE2) rfl Tryz.underlying24 rfl (by kernel_rfl) trivial rfl rfl rfl rfl rfl ?_
 refine Pl.bC (.pointer (some ⟨N1,2,none⟩)) trivial rfl rfl rfl rfl (fun X=>by kernel_rfl) ?_
 refine Pl.eT (v:=.int .i64 ea) Tryz.underlying3 rfl (Pl.Cb.at (j:=2) (Pl.Cb.ex aC hE2) rfl) trivial rfl rfl rfl rfl rfl ?_
 refine Pl.aG trivial rfl ?_
 refine Pl.dO (v:=.int .i64 (ea+n)) (fun X=>xG (by omega) X) trivial rfl rfl rfl rfl rfl rfl ?_
 refine Pl.ah rfl rfl rfl rfl rfl (fun u X=>Pl.enters Tryz.func65 (by kernel_rfl) rfl u X) ?_
 refine Calls.mono (lH _ _ ma (ea+n) (Zn.of (Un.below ua (Pl.Ex.trans hE1 hE2))) (Nat.le_trans da.sz (by omega)) (by omega) (by omega) (shl ma (ea+n)) rfl) ?_
 rintro e w3 ⟨vs,rfl,hvs,aO⟩
 obtain ⟨As,cs,rfl,us⟩:=hvs
 have mZ:=Pl.Ex.size aO
 refine ⟨_,rfl,trivial,?_⟩
 refine Pl.bg (new:=[.bool (decide ((shl ma (ea+n))<0)),.slice As (limbs (Int.natAbs (shl ma (ea+n)))).length cs]) (Pl.Cb.ex aD aO) (by kernel_rfl) rfl (by simp [Value.oneCell']) rfl rfl rfl rfl rfl rfl (fun Y hY=>trivial) ?_
 intro w4 yH dG
 have aR:=Pl.Ex.xs (Pl.Ex.trans hE2 aO) yH (by omega)
 have l9:=Pl.Xs.size yH
 refine Pl.af ?_
 have k3:=Un.xs us yH (Pl.Cb.ex aD aO) (by simp)
 repeat refine Pl.ay ?_
 exact Pl.cO rfl rfl dG Tryz.underlying24 rfl (by kernel_rfl) (⟨_,rfl,by rw [← da.val,Dy.scaled];exact Zn.of k3,(Pl.Ex.trans hE1 aR)⟩)
theorem F4 {m e:Int} (h:0≤e):((shl m e:Int):Rat)=Dy.dv m e:=by
 obtain ⟨k,rfl⟩:=Int.eq_ofNat_of_zero_le h
 rw [vL,Dy.XM]
theorem TY {m e:Int} {x:Rat} (hc:Dy.Can m e) (h:e<0) (hx:Dy.dv m e=x):x.num=m∧x.den=(shl 1 (-e)).natAbs:=by
 subst hx
 obtain ⟨k,hk⟩:=Int.eq_ofNat_of_zero_le (show 0 ≤ -e by omega)
 obtain rfl:e = -(k:Int):=by omega
 rw [Int.neg_neg,vL,Int.one_mul,Int.natAbs_pow]
 rcases hc with ⟨_,h0⟩ | h1
 · omega
 · exact Dy.aeu h1 k
theorem aba {n:Int} {M:Nat} (h:n<32*(M:Int)) (h0:0≤n):Sn (shl 1 n).natAbs M:=by
 obtain ⟨k,rfl⟩:=Int.eq_ofNat_of_zero_le h0
 rw [vL,Int.one_mul,Int.natAbs_pow]
 exact Sn.bits (b:=k+1) (Nat.pow_lt_pow_right (by decide) (by omega)) (by omega)
theorem nu (w:World) (va:Value) (x:Rat) (L J M:Nat) (lo hi:Int) (ha:Dn w va x L lo hi) (hL:L≤100000) (hlo : -100000≤lo) (hhi:hi≤100000) (hJ:hi≤32*J) (hM : -lo<32*M) (hM1:1≤M) :
  Calls Tryz.prog 35 #[va] w fun e w'=>∃ u,e = .returned u∧Qn w' u x (L+J) M∧Pl.Ex w w':=by
 obtain ⟨ma,ea,Aa,ca,rfl,ua,da⟩:=ha
 have CF:=da.lo
 have CG:=da.hi
 refine Pl.bL (n:=20) (vs:=[.agg #[.bool (decide (ma<0)),.slice Aa (limbs (Int.natAbs ma)).length ca,.int .i64 ea]]) Tryz.func35 rfl (by kernel_rfl) (by simp) ?_
 repeat refine Pl.ay ?_
 refine Pl.aB (by kernel_rfl) ?_
 refine Pl.dN (cs:=[.bool (decide (ma<0)),.slice Aa (limbs (Int.natAbs ma)).length ca,.int .i64 ea]) rfl rfl rfl rfl rfl rfl (fun Y hY=>trivial) ?_
 intro N1 w1 hE1 eP aC
 have ig:=Pl.Cb.lt aC
 have mH:=Pl.Ex.size hE1
 refine Pl.aU (z:=.agg #[.bool false,.slice none 0 0,.slice none 0 0]) (by kernel_rfl) rfl rfl rfl rfl (fun Y hY=>trivial) ?_
 intro N2 w2 hE2 gD aD
 have iB:=Pl.Cb.lt aD
 have mY:=Pl.Ex.size hE2
 replace aD:Pl.Cb w2 N2 41 [.bool false,.slice none 0 0,.slice none 0 0]:=aD
 refine Pl.af ?_
 repeat refine Pl.ay ?_
 refine Pl.aB (by kernel_rfl) ?_
 refine Pl.bC (.pointer (some ⟨N1,2,none⟩)) trivial rfl rfl rfl rfl (fun X=>by kernel_rfl) ?_
 refine Pl.eT (v:=.int .i64 ea) Tryz.underlying3 rfl (Pl.Cb.at (j:=2) (Pl.Cb.ex aC hE2) rfl) trivial rfl rfl rfl rfl rfl ?_
 by_cases c3:ea≥0
 · refine Pl.dO (v:=.bool true) (fun X=>sU c3 X) trivial rfl rfl rfl rfl rfl rfl ?_
   refine Pl.af ?_
   repeat refine Pl.ay ?_
   refine Pl.iO rfl ?_
   repeat refine Pl.ay ?_
   refine Pl.aB (by kernel_rfl) ?_
   refine Pl.bC (.pointer (some ⟨N1,0,none⟩)) trivial rfl rfl rfl rfl (fun X=>by kernel_rfl) ?_
   refine Pl.dJ (part:=[.bool (decide (ma<0)),.slice Aa (limbs (Int.natAbs ma)).length ca]) (Pl.Cb.ex aC hE2) rfl Tryz.underlying24 rfl (by kernel_rfl) trivial rfl rfl rfl rfl rfl ?_
   refine Pl.bC (.pointer (some ⟨N1,2,none⟩)) trivial rfl rfl rfl rfl (fun X=>by kernel_rfl) ?_
   refine Pl.eT (v:=.int .i64 ea) Tryz.underlying3 rfl (Pl.Cb.at (j:=2) (Pl.Cb.ex aC hE2) rfl) trivial rfl rfl rfl rfl rfl ?_
   refine Pl.ah rfl rfl rfl rfl rfl (fun u X=>Pl.enters Tryz.func65 (by kernel_rfl) rfl u X) ?_
   refine Calls.mono (lH _ _ ma ea (Zn.of (Un.below ua (Pl.Ex.trans hE1 hE2))) (Nat.le_trans da.sz (by omega)) (by omega) (by omega) (shl ma ea) rfl) ?_
   rintro e w3 ⟨vs,rfl,hvs,aO⟩
   obtain ⟨As,cs,rfl,us⟩:=hvs
   have hsz:Sz (shl ma ea) (L+J):=qP (j:=J) da.sz (by omega) (Nat.le_refl _)
   have mZ:=Pl.Ex.size aO
   refine ⟨_,rfl,trivial,?_⟩
   refine Pl.ah rfl rfl rfl rfl rfl (fun u X=>Pl.enters Tryz.func80 (by kernel_rfl) rfl u X) ?_
   refine Calls.mono (NH _ _ (shl ma ea) (L+J) (Zn.of us) hsz) ?_
   rintro e w4 ⟨vq,rfl,zJ,aR⟩
   rw [F4 (by omega),da.val] at zJ
   obtain ⟨Aq,cq,Ar,cr,rfl,uq,ur,qz,qd⟩:=zJ
   have l9:=Pl.Ex.size aR
   refine ⟨_,rfl,trivial,?_⟩
   refine Pl.bg (new:=[.bool (decide ((Rat.num x)<0)),.slice Aq (limbs (Int.natAbs (Rat.num x))).length cq,.slice Ar (limbs (Rat.den x)).length cr]) (Pl.Cb.ex aD (Pl.Ex.trans aO aR)) (by kernel_rfl) rfl (by simp [Value.oneCell']) rfl rfl rfl rfl rfl rfl (fun Y hY=>trivial) ?_
   intro w5 kF dG
   have aP:=Pl.Ex.xs (Pl.Ex.trans hE2 (Pl.Ex.trans aO aR)) kF (by omega)
   have jY:=Pl.Xs.size kF
   refine Pl.af ?_
   have k4:=Un.xs uq kF (Pl.Cb.ex aD (Pl.Ex.trans aO aR)) (by simp)
   have k5:=Un.xs ur kF (Pl.Cb.ex aD (Pl.Ex.trans aO aR)) (by simp)
   repeat refine Pl.ay ?_
   exact Pl.cO rfl rfl dG Tryz.underlying41 rfl (by kernel_rfl) (⟨_,rfl,Qn.mk k4 k5 qz (qd.le hM1),(Pl.Ex.trans hE1 aP)⟩)
 · refine Pl.dO (v:=.bool false) (fun X=>vF c3 X) trivial rfl rfl rfl rfl rfl rfl ?_
   refine Pl.af ?_
   repeat refine Pl.ay ?_
   refine Pl.gm rfl ?_
   repeat refine Pl.ay ?_
   refine Pl.iK ?_
   repeat refine Pl.ay ?_
   refine Pl.fJ (S:=fun X=>Pl.Ex w1 X) [(true,0,0),(true,1,1),(true,2,3),(true,3,7),(true,4,15),(false,5,31),(true,6,63),(true,7,127),(false,8,255)] fo Pl.az (by kernel_rfl) (Pl.Ex.trans hE2 (Pl.Ex.drew _)) ?_
   have aO:=Pl.Ex.drew w2
   generalize w2.drew=w3 at *
   have mZ:=Pl.Ex.size aO
   intro eY
   refine Pl.bC (.pointer (some ⟨N1,0,none⟩)) eY rfl rfl rfl rfl (fun X=>by kernel_rfl) ?_
   refine Pl.bT (part:=[.bool (decide (ma<0)),.slice Aa (limbs (Int.natAbs ma)).length ca]) (fun X hX=>Pl.Cb.ex aC hX) rfl Tryz.underlying24 rfl (by kernel_rfl) eY rfl rfl rfl rfl rfl ?_
   refine Pl.bC (.pointer (some ⟨N1,2,none⟩)) eY rfl rfl rfl rfl (fun X=>by kernel_rfl) ?_
   refine Pl.iE (v:=.int .i64 ea) Tryz.underlying3 rfl (fun X hX=>Pl.Cb.at (j:=2) (Pl.Cb.ex aC hX) rfl) eY rfl rfl rfl rfl rfl ?_
   refine Pl.mK (v:=.int .i64 (-ea)) eY rfl rfl rfl rfl rfl (fun X=>uA (by omega) X) ?_
   refine Pl.ah rfl rfl rfl rfl rfl (fun u X=>Pl.enters Tryz.func81 (by kernel_rfl) rfl u X) ?_
   refine Calls.mono (Gn _ (-ea) (by omega) (by omega)) ?_
   rintro e w4 ⟨vs,rfl,hvs,aR⟩
   obtain ⟨As,cs,rfl,us⟩:=hvs
   have l9:=Pl.Ex.size aR
   have dP:=Pl.Ex.trans eY aR
   refine ⟨_,rfl,dP,?_⟩
   refine Pl.bC (.slice As (limbs (Int.natAbs (shl 1 (-ea)))).length cs) dP rfl rfl rfl rfl (fun X=>by kernel_rfl) ?_
   refine Pl.bC (.agg #[.bool (decide (ma<0)),.slice Aa (limbs (Int.natAbs ma)).length ca,.slice As (limbs (Int.natAbs (shl 1 (-ea)))).length cs]) dP rfl rfl rfl rfl (fun X=>by kernel_rfl) ?_
   refine Pl.bg (new:=[.bool (decide (ma<0)),.slice Aa (limbs (Int.natAbs ma)).length ca,.slice As (limbs (Int.natAbs (shl 1 (-ea)))).length cs]) (Pl.Cb.ex aD (Pl.Ex.trans aO aR)) (by kernel_rfl) rfl (by simp [Value.oneCell']) rfl rfl rfl rfl rfl rfl (fun Y hY=>Pl.Ex.xs dP hY (by omega)) ?_
   intro w5 kF dG
   have aP:=Pl.Ex.xs (Pl.Ex.trans hE2 (Pl.Ex.trans aO aR)) kF (by omega)
   have jY:=Pl.Xs.size kF
   have hS5:=Pl.Ex.xs dP kF (by omega)
   refine Pl.af ?_
   have k4:=Un.xs us kF (Pl.Cb.ex aD (Pl.Ex.trans aO aR)) (by simp)
   repeat refine Pl.ay ?_
   exact Pl.cO rfl rfl dG Tryz.underlying41 rfl (by kernel_rfl) (⟨_,rfl,Qn.of (TY da.can (by omega) da.val).1 (TY da.can (by omega) da.val).2 (Un.below ua (Pl.Ex.trans hE1 aP)) k4 (da.sz.le (by omega)) (aba (by omega) (by omega)),(Pl.Ex.trans hE1 aP)⟩)
end Go.Proofs.YtdpmbgomcjnohaaGreatDoor
