/- Both at one power of 2: what is done there. -/
import Derived.Test.YtdpmbgomcjnohaaGreatDoorBav

namespace Go.Proofs.YtdpmbgomcjnohaaGreatDoor
open Go.RowKit 
set_option linter.all false
set_option maxRecDepth 100000
set_option maxHeartbeats 8000000
theorem uw {m e1 e:Int} (h:e≤e1):Dy.dv (shl m (e1-e)) e=Dy.dv m e1:=by
 obtain ⟨k,hk⟩:=Int.eq_ofNat_of_zero_le (show 0≤e1-e by omega)
 rw [hk,oL,Dy.qh,← hk,show e+(e1-e)=e1 by omega]
theorem UY {m n e1 e2 e:Int} (h:e≤e1) (g:e≤e2):(Dy.dv m e1<Dy.dv n e2↔shl m (e1-e)<shl n (e2-e))∧(Dy.dv m e1=Dy.dv n e2↔shl m (e1-e)=shl n (e2-e)):=by
 rw [← uw h,← uw g,Dy.Ij]
 exact ⟨Iff.rfl,Dy.JQ,fun h=>by rw [h]⟩
theorem KL (w:World) (hg:Gt w) (N:Nat) (kN:Pl.Cb w N 26 [.bool false,.slice none 0 0,.int .i64 0]) (vx vy:Value) (x y ex:Int) (hx:Zn w vx x) (hy:Zn w vy y) (lx:Sz x 1000000) (ly:Sz y 1000000) (L:Nat) (hs:Sz (x+y) L) (hL:L≤30000) (he : -1000000≤ex∧ex≤1000000) (lo hi:Int) (h1:lo≤ex-1) (h2:ex+32*L≤hi) (h3:lo≤0) (h4:0≤hi) :
  Calls Tryz.prog 73 #[vx,vy,.int .i64 ex,.pointer (some ⟨N,0,none⟩)] w fun e w'=>e = .returned (.tuple #[])∧Pl.Xs [N] w w'∧∃ m e2 A c,Pl.Cb w' N 26 [.bool (decide (m<0)),.slice A (limbs m.natAbs).length c,.int .i64 e2]∧Un w' (.slice A (limbs m.natAbs).length c) m.natAbs∧Dd m e2 (Dy.dv (x+y) (ex)) L lo hi:=by
 obtain ⟨Ax,cx,rfl,ux⟩:=hx
 obtain ⟨Ay,cy,rfl,uy⟩:=hy
 have zN:=Pl.Cb.lt kN
 refine Pl.aN (n:=12) (vs:=[.agg #[.bool (decide (x<0)),.slice Ax (limbs (Int.natAbs x)).length cx],.agg #[.bool (decide (y<0)),.slice Ay (limbs (Int.natAbs y)).length cy],.int .i64 ex,.pointer (some ⟨N,0,none⟩)]) Tryz.func73 rfl (by kernel_rfl) (by simp) ?_
 repeat refine Pl.af ?_
 refine Pl.ah (by kernel_rfl) ?_
 refine Pl.bF (cs:=[.bool (decide (x<0)),.slice Ax (limbs (Int.natAbs x)).length cx]) rfl rfl rfl rfl rfl rfl (fun Y hY=>trivial) ?_
 intro N1 w1 hE1 bT ak
 have dP:=Pl.Cb.lt ak
 have jC:=Pl.Ex.size hE1
 refine Pl.bF (cs:=[.bool (decide (y<0)),.slice Ay (limbs (Int.natAbs y)).length cy]) rfl rfl rfl rfl rfl rfl (fun Y hY=>trivial) ?_
 intro N2 w2 hE2 dU aA
 have iq:=Pl.Cb.lt aA
 have jM:=Pl.Ex.size hE2
 refine Pl.aj ?_
 repeat refine Pl.af ?_
 refine Pl.ah (by kernel_rfl) ?_
 refine Pl.bg (part:=[.bool (decide (x<0)),.slice Ax (limbs (Int.natAbs x)).length cx]) (Pl.Cb.ex ak hE2) rfl Tryz.underlying24 rfl (by kernel_rfl) trivial rfl rfl rfl rfl rfl ?_
 refine Pl.bg (part:=[.bool (decide (y<0)),.slice Ay (limbs (Int.natAbs y)).length cy]) aA rfl Tryz.underlying24 rfl (by kernel_rfl) trivial rfl rfl rfl rfl rfl ?_
 refine Pl.ay rfl rfl rfl rfl rfl (fun u X=>Pl.enters Tryz.func74 (by kernel_rfl) rfl u X) ?_
 refine Calls.mono (XB _ _ _ x y (Zn.of (Un.below ux (Pl.Ex.trans hE1 hE2))) (Zn.of (Un.below uy (Pl.Ex.trans hE1 hE2))) lx ly _ rfl) ?_
 rintro e w3 ⟨vs,rfl,hvs,aJ⟩
 obtain ⟨As,cs,rfl,us⟩:=hvs
 have jX:=Pl.Ex.size aJ
 refine ⟨_,rfl,trivial,?_⟩
 refine Pl.aG trivial rfl ?_
 refine Pl.ay rfl rfl rfl rfl rfl (fun u X=>Pl.enters Tryz.func18 (by kernel_rfl) rfl u X) ?_
 refine Calls.mono (dD _ (hg.ext (Pl.Ex.trans hE1 (Pl.Ex.trans hE2 aJ))) _ (x+y) ex (Zn.of us) L hs hL (by omega) lo hi (by omega) (by omega) (by omega) (by omega)) ?_
 rintro e w4 ⟨vd,rfl,hvd,aP⟩
 obtain ⟨m1,e1,A1,c1,rfl,u1,d1⟩:=hvd
 have kY:=Pl.Ex.size aP
 refine ⟨_,rfl,trivial,?_⟩
 refine Pl.bz (new:=[.bool (decide (m1<0)),.slice A1 (limbs (Int.natAbs m1)).length c1,.int .i64 e1]) (Pl.Cb.ex kN (Pl.Ex.trans hE1 (Pl.Ex.trans hE2 (Pl.Ex.trans aJ aP)))) (by kernel_rfl) rfl (by simp [Value.oneCell']) rfl rfl rfl rfl rfl rfl (fun Y hY=>trivial) ?_
 intro w5 iW CG
 have mI:=Pl.Xs.size iW
 have gQ:=Pl.Cb.xs (Pl.Cb.ex ak (Pl.Ex.trans hE2 (Pl.Ex.trans aJ aP))) iW (by simp;omega)
 have bf:=Pl.Cb.xs (Pl.Cb.ex aA (Pl.Ex.trans aJ aP)) iW (by simp;omega)
 refine Pl.aj ?_
 repeat refine Pl.af ?_
 have k3:=Un.xs u1 iW (Pl.Cb.ex kN (Pl.Ex.trans hE1 (Pl.Ex.trans hE2 (Pl.Ex.trans aJ aP)))) (by simp)
 exact Pl.nM rfl ⟨rfl,(Pl.Xs.trans (Pl.Xs.ex (Pl.Ex.trans hE1 (Pl.Ex.trans hE2 (Pl.Ex.trans aJ aP)))) iW),m1,e1,A1,c1,CG,k3,d1⟩
theorem KM (w:World) (hg:Gt w) (N:Nat) (kN:Pl.Cb w N 26 [.bool false,.slice none 0 0,.int .i64 0]) (vx vy:Value) (x y ex:Int) (hx:Zn w vx x) (hy:Zn w vy y) (lx:Sz x 1000000) (ly:Sz y 1000000) (L:Nat) (hs:Sz (x+y) L) (hL:L≤30000) (he : -1000000≤ex∧ex≤1000000) (lo hi:Int) (h1:lo≤ex-1) (h2:ex+32*L≤hi) (h3:lo≤0) (h4:0≤hi) :
  Calls Tryz.prog 77 #[vx,vy,.int .i64 ex,.pointer (some ⟨N,0,none⟩)] w fun e w'=>e = .returned (.tuple #[])∧Pl.Xs [N] w w'∧∃ m e2 A c,Pl.Cb w' N 26 [.bool (decide (m<0)),.slice A (limbs m.natAbs).length c,.int .i64 e2]∧Un w' (.slice A (limbs m.natAbs).length c) m.natAbs∧Dd m e2 (Dy.dv (x+y) (ex-1)) L lo hi:=by
 obtain ⟨Ax,cx,rfl,ux⟩:=hx
 obtain ⟨Ay,cy,rfl,uy⟩:=hy
 have zN:=Pl.Cb.lt kN
 refine Pl.aN (n:=13) (vs:=[.agg #[.bool (decide (x<0)),.slice Ax (limbs (Int.natAbs x)).length cx],.agg #[.bool (decide (y<0)),.slice Ay (limbs (Int.natAbs y)).length cy],.int .i64 ex,.pointer (some ⟨N,0,none⟩)]) Tryz.func77 rfl (by kernel_rfl) (by simp) ?_
 repeat refine Pl.af ?_
 refine Pl.ah (by kernel_rfl) ?_
 refine Pl.bF (cs:=[.bool (decide (x<0)),.slice Ax (limbs (Int.natAbs x)).length cx]) rfl rfl rfl rfl rfl rfl (fun Y hY=>trivial) ?_
 intro N1 w1 hE1 bT ak
 have dP:=Pl.Cb.lt ak
 have jC:=Pl.Ex.size hE1
 refine Pl.bF (cs:=[.bool (decide (y<0)),.slice Ay (limbs (Int.natAbs y)).length cy]) rfl rfl rfl rfl rfl rfl (fun Y hY=>trivial) ?_
 intro N2 w2 hE2 dU aA
 have iq:=Pl.Cb.lt aA
 have jM:=Pl.Ex.size hE2
 refine Pl.aj ?_
 repeat refine Pl.af ?_
 refine Pl.ah (by kernel_rfl) ?_
 refine Pl.bg (part:=[.bool (decide (x<0)),.slice Ax (limbs (Int.natAbs x)).length cx]) (Pl.Cb.ex ak hE2) rfl Tryz.underlying24 rfl (by kernel_rfl) trivial rfl rfl rfl rfl rfl ?_
 refine Pl.bg (part:=[.bool (decide (y<0)),.slice Ay (limbs (Int.natAbs y)).length cy]) aA rfl Tryz.underlying24 rfl (by kernel_rfl) trivial rfl rfl rfl rfl rfl ?_
 refine Pl.ay rfl rfl rfl rfl rfl (fun u X=>Pl.enters Tryz.func74 (by kernel_rfl) rfl u X) ?_
 refine Calls.mono (XB _ _ _ x y (Zn.of (Un.below ux (Pl.Ex.trans hE1 hE2))) (Zn.of (Un.below uy (Pl.Ex.trans hE1 hE2))) lx ly _ rfl) ?_
 rintro e w3 ⟨vs,rfl,hvs,aJ⟩
 obtain ⟨As,cs,rfl,us⟩:=hvs
 have jX:=Pl.Ex.size aJ
 refine ⟨_,rfl,trivial,?_⟩
 refine Pl.aG trivial rfl ?_
 refine Pl.bP (v:=.int .i64 (ex-1)) (fun X=>jH (by omega) X) trivial rfl rfl rfl rfl rfl rfl ?_
 refine Pl.ay rfl rfl rfl rfl rfl (fun u X=>Pl.enters Tryz.func18 (by kernel_rfl) rfl u X) ?_
 refine Calls.mono (dD _ (hg.ext (Pl.Ex.trans hE1 (Pl.Ex.trans hE2 aJ))) _ (x+y) (ex-1) (Zn.of us) L hs hL (by omega) lo hi (by omega) (by omega) (by omega) (by omega)) ?_
 rintro e w4 ⟨vd,rfl,hvd,aP⟩
 obtain ⟨m1,e1,A1,c1,rfl,u1,d1⟩:=hvd
 have kY:=Pl.Ex.size aP
 refine ⟨_,rfl,trivial,?_⟩
 refine Pl.bz (new:=[.bool (decide (m1<0)),.slice A1 (limbs (Int.natAbs m1)).length c1,.int .i64 e1]) (Pl.Cb.ex kN (Pl.Ex.trans hE1 (Pl.Ex.trans hE2 (Pl.Ex.trans aJ aP)))) (by kernel_rfl) rfl (by simp [Value.oneCell']) rfl rfl rfl rfl rfl rfl (fun Y hY=>trivial) ?_
 intro w5 iW CG
 have mI:=Pl.Xs.size iW
 have gQ:=Pl.Cb.xs (Pl.Cb.ex ak (Pl.Ex.trans hE2 (Pl.Ex.trans aJ aP))) iW (by simp;omega)
 have bf:=Pl.Cb.xs (Pl.Cb.ex aA (Pl.Ex.trans aJ aP)) iW (by simp;omega)
 refine Pl.aj ?_
 repeat refine Pl.af ?_
 have k3:=Un.xs u1 iW (Pl.Cb.ex kN (Pl.Ex.trans hE1 (Pl.Ex.trans hE2 (Pl.Ex.trans aJ aP)))) (by simp)
 exact Pl.nM rfl ⟨rfl,(Pl.Xs.trans (Pl.Xs.ex (Pl.Ex.trans hE1 (Pl.Ex.trans hE2 (Pl.Ex.trans aJ aP)))) iW),m1,e1,A1,c1,CG,k3,d1⟩
theorem KN (w:World) (N:Nat) (kN:Pl.Cb w N 3 [.int .i64 0]) (vx vy:Value) (x y ex:Int) (hx:Zn w vx x) (hy:Zn w vy y) :
  Calls Tryz.prog 69 #[vx,vy,.int .i64 ex,.pointer (some ⟨N,0,none⟩)] w fun e w'=>e = .returned (.tuple #[])∧Pl.Xs [N] w w'∧∃ k,Pl.Cb w' N 3 [.int .i64 k]∧bZ x y=k:=by
 obtain ⟨Ax,cx,rfl,ux⟩:=hx
 obtain ⟨Ay,cy,rfl,uy⟩:=hy
 have zN:=Pl.Cb.lt kN
 refine Pl.aN (n:=10) (vs:=[.agg #[.bool (decide (x<0)),.slice Ax (limbs (Int.natAbs x)).length cx],.agg #[.bool (decide (y<0)),.slice Ay (limbs (Int.natAbs y)).length cy],.int .i64 ex,.pointer (some ⟨N,0,none⟩)]) Tryz.func69 rfl (by kernel_rfl) (by simp) ?_
 repeat refine Pl.af ?_
 refine Pl.ah (by kernel_rfl) ?_
 refine Pl.bF (cs:=[.bool (decide (x<0)),.slice Ax (limbs (Int.natAbs x)).length cx]) rfl rfl rfl rfl rfl rfl (fun Y hY=>trivial) ?_
 intro N1 w1 hE1 bT ak
 have dP:=Pl.Cb.lt ak
 have jC:=Pl.Ex.size hE1
 refine Pl.bF (cs:=[.bool (decide (y<0)),.slice Ay (limbs (Int.natAbs y)).length cy]) rfl rfl rfl rfl rfl rfl (fun Y hY=>trivial) ?_
 intro N2 w2 hE2 dU aA
 have iq:=Pl.Cb.lt aA
 have jM:=Pl.Ex.size hE2
 refine Pl.aj ?_
 repeat refine Pl.af ?_
 refine Pl.ah (by kernel_rfl) ?_
 refine Pl.bg (part:=[.bool (decide (x<0)),.slice Ax (limbs (Int.natAbs x)).length cx]) (Pl.Cb.ex ak hE2) rfl Tryz.underlying24 rfl (by kernel_rfl) trivial rfl rfl rfl rfl rfl ?_
 refine Pl.bg (part:=[.bool (decide (y<0)),.slice Ay (limbs (Int.natAbs y)).length cy]) aA rfl Tryz.underlying24 rfl (by kernel_rfl) trivial rfl rfl rfl rfl rfl ?_
 refine Pl.ay rfl rfl rfl rfl rfl (fun u X=>Pl.enters Tryz.func70 (by kernel_rfl) rfl u X) ?_
 refine Calls.mono (QG _ _ _ x y (Zn.of (Un.below ux (Pl.Ex.trans hE1 hE2))) (Zn.of (Un.below uy (Pl.Ex.trans hE1 hE2))) _ rfl) ?_
 rintro e w3 ⟨rfl,aJ⟩
 obtain ⟨k1,NP⟩:∃ q,bZ x y=q:=⟨_,rfl⟩
 rw [NP]
 have jX:=Pl.Ex.size aJ
 refine ⟨_,rfl,trivial,?_⟩
 refine Pl.Cw (j:=0) (u:=.int .i64 k1) (Pl.Cb.ex kN (Pl.Ex.trans hE1 (Pl.Ex.trans hE2 aJ))) (by simp) (by kernel_rfl) rfl rfl rfl rfl rfl rfl rfl rfl (fun Y hY=>trivial) ?_
 intro w4 wo CG
 replace CG:Pl.Cb w4 N 3 [.int .i64 k1]:=CG
 have kY:=Pl.Xs.size wo
 have gQ:=Pl.Cb.xs (Pl.Cb.ex ak (Pl.Ex.trans hE2 aJ)) wo (by simp;omega)
 have bf:=Pl.Cb.xs (Pl.Cb.ex aA aJ) wo (by simp;omega)
 refine Pl.aj ?_
 repeat refine Pl.af ?_
 exact Pl.nM rfl ⟨rfl,(Pl.Xs.trans (Pl.Xs.ex (Pl.Ex.trans hE1 (Pl.Ex.trans hE2 aJ))) wo),k1,CG,rfl⟩
end Go.Proofs.YtdpmbgomcjnohaaGreatDoor
/- Both at one power of 2. -/
namespace Go.Proofs.YtdpmbgomcjnohaaGreatDoor
open Go.RowKit 
set_option linter.all false
set_option maxRecDepth 100000
set_option maxHeartbeats 8000000
def ET (x y:Rat) (k:Int):Prop := -1≤k∧k≤1∧(k<0↔x<y)∧(k=0↔x=y)∧(0<k↔y<x)
theorem UZ {m n e1 e2 a b k:Int} {x y:Rat} (h:(Dy.dv m e1<Dy.dv n e2↔a<b)∧(Dy.dv m e1=Dy.dv n e2↔a=b)) (hx:Dy.dv m e1=x) (hy:Dy.dv n e2=y) (hk:bZ a b=k):ET x y k:=by
 subst hx hy
 have h1:=yj hk
 refine ⟨by omega,by omega,by rw [h.1];omega,by rw [h.2];omega,?_⟩
 rw [Rat.lt_iff_le_and_ne,← Rat.not_lt,h.1,ne_eq,eq_comm,h.2]
 omega
theorem ET.uniq {x y:Rat} {j k:Int} (h:ET x y j) (g:ET x y k):j=k:=by
 obtain ⟨a1,a2,a3,a4,a5⟩:=h
 obtain ⟨b1,b2,b3,b4,b5⟩:=g
 rcases Int.lt_trichotomy j 0 with h | h | h
 · have:=b3.2 (a3.1 h);omega
 · have:=b4.2 (a4.1 h);omega
 · have:=b5.2 (a5.1 h);omega
theorem Rm (w:World) (hg:Gt w) (N:Nat) (kN:Pl.Cb w N 26 [.bool false,.slice none 0 0,.int .i64 0]) (va vb:Value) (x y:Rat) (L J:Nat) (lo hi:Int) (ha:Dn w va x L lo hi) (hb:Dn w vb y L lo hi) (hJ:hi-lo≤32*J) (hL:L+J+1≤20000) (hlo : -900000≤lo) (hhi:hi≤900000) (lo2 hi2:Int) (h1:lo2≤lo-1) (h2:hi+32*(L+J+1:Nat)≤hi2) (h3:lo2≤0) (h4:0≤hi2) :
  Calls Tryz.prog 68 #[va,vb,.func (.func 73) #[] #[.pointer (some ⟨N,0,none⟩)]] w fun e w'=>e = .returned (.tuple #[])∧Pl.Xs [N] w w'∧∃ m e2 A c,Pl.Cb w' N 26 [.bool (decide (m<0)),.slice A (limbs m.natAbs).length c,.int .i64 e2]∧Un w' (.slice A (limbs m.natAbs).length c) m.natAbs∧Dd m e2 (x+y) (L+J+1) lo2 hi2:=by
 obtain ⟨ma,ea,Aa,ca,rfl,ua,da⟩:=ha
 have yx:=da.lo
 have yz:=da.hi
 obtain ⟨mb,eb,Ab,cb,rfl,ub,db⟩:=hb
 have Ny:=db.lo
 have Nz:=db.hi
 have zN:=Pl.Cb.lt kN
 obtain ⟨q,hq⟩:∃ q,min ea eb=q:=⟨_,rfl⟩
 have hqa:q≤ea:=by omega
 have LM:q≤eb:=by omega
 have Ot:lo≤q:=by omega
 have YD:Sz (shl ma (ea-q)) (L+J):=jF (j:=J) da.sz (by omega) (Nat.le_refl _)
 have YE:Sz (shl mb (eb-q)) (L+J):=jF (j:=J) db.sz (by omega) (Nat.le_refl _)
 refine Pl.aN (n:=29) (vs:=[.agg #[.bool (decide (ma<0)),.slice Aa (limbs (Int.natAbs ma)).length ca,.int .i64 ea],.agg #[.bool (decide (mb<0)),.slice Ab (limbs (Int.natAbs mb)).length cb,.int .i64 eb],.func (.func 73) #[] #[.pointer (some ⟨N,0,none⟩)]]) Tryz.func68 rfl (by kernel_rfl) (by simp) ?_
 repeat refine Pl.af ?_
 refine Pl.ah (by kernel_rfl) ?_
 refine Pl.bF (cs:=[.bool (decide (ma<0)),.slice Aa (limbs (Int.natAbs ma)).length ca,.int .i64 ea]) rfl rfl rfl rfl rfl rfl (fun Y hY=>trivial) ?_
 intro N1 w1 hE1 bT ak
 have dP:=Pl.Cb.lt ak
 have jC:=Pl.Ex.size hE1
 refine Pl.bF (cs:=[.bool (decide (mb<0)),.slice Ab (limbs (Int.natAbs mb)).length cb,.int .i64 eb]) rfl rfl rfl rfl rfl rfl (fun Y hY=>trivial) ?_
 intro N2 w2 hE2 dU aA
 have iq:=Pl.Cb.lt aA
 have jM:=Pl.Ex.size hE2
 refine Pl.aj ?_
 repeat refine Pl.af ?_
 refine Pl.ah (by kernel_rfl) ?_
 refine Pl.aL (.pointer (some ⟨N1,2,none⟩)) trivial rfl rfl rfl rfl (fun X=>by kernel_rfl) ?_
 refine Pl.bD (v:=.int .i64 ea) Tryz.underlying3 rfl (Pl.Cb.at (j:=2) (Pl.Cb.ex ak hE2) rfl) trivial rfl rfl rfl rfl rfl ?_
 refine Pl.aL (.pointer (some ⟨N2,2,none⟩)) trivial rfl rfl rfl rfl (fun X=>by kernel_rfl) ?_
 refine Pl.bD (v:=.int .i64 eb) Tryz.underlying3 rfl (Pl.Cb.at (j:=2) aA rfl) trivial rfl rfl rfl rfl rfl ?_
 refine KJ (a:=ea) (b:=eb) trivial rfl rfl rfl rfl rfl rfl ?_
 rw [hq]
 refine Pl.aG trivial rfl ?_
 refine Pl.aj ?_
 repeat refine Pl.af ?_
 refine Pl.fU (S:=fun X=>Pl.Xs [N] w X∧Pl.Cb X N1 26 [.bool (decide (ma<0)),.slice Aa (limbs (Int.natAbs ma)).length ca,.int .i64 ea]∧Pl.Cb X N2 26 [.bool (decide (mb<0)),.slice Ab (limbs (Int.natAbs mb)).length cb,.int .i64 eb]) [(true,0,0),(true,1,1),(true,2,3),(true,3,7),(true,4,15),(true,5,31),(true,6,63),(true,8,127),(true,9,383),(true,10,895),(true,11,1919),(true,12,3967),(true,13,8063),(true,15,16255),(false,7,49023),(false,14,49151),(false,16,65535)] fo Pl.aR (by kernel_rfl) ⟨Pl.Xs.ex (Pl.Ex.trans (Pl.Ex.trans hE1 hE2) (Pl.Ex.drew _)),Pl.Cb.ex (Pl.Cb.ex ak hE2) (Pl.Ex.drew _),Pl.Cb.ex aA (Pl.Ex.drew _)⟩ ?_
 have aJ:=Pl.Ex.drew w2
 generalize w2.drew=w3 at *
 have jX:=Pl.Ex.size aJ
 intro dL
 refine Pl.aG dL rfl ?_
 refine Pl.aL (.pointer (some ⟨N1,0,none⟩)) dL rfl rfl rfl rfl (fun X=>by kernel_rfl) ?_
 refine Pl.bn (part:=[.bool (decide (ma<0)),.slice Aa (limbs (Int.natAbs ma)).length ca]) (fun X hX=>hX.2.1) rfl Tryz.underlying24 rfl (by kernel_rfl) dL rfl rfl rfl rfl rfl ?_
 refine Pl.aL (.pointer (some ⟨N1,2,none⟩)) dL rfl rfl rfl rfl (fun X=>by kernel_rfl) ?_
 refine Pl.iB (v:=.int .i64 ea) Tryz.underlying3 rfl (fun X hX=>Pl.Cb.at (j:=2) (hX.2.1) rfl) dL rfl rfl rfl rfl rfl ?_
 refine Pl.aG dL rfl ?_
 refine Pl.bP (v:=.int .i64 (ea-q)) (fun X=>jH (by omega) X) dL rfl rfl rfl rfl rfl rfl ?_
 refine Pl.aL (.pointer (some ⟨N2,0,none⟩)) dL rfl rfl rfl rfl (fun X=>by kernel_rfl) ?_
 refine Pl.bn (part:=[.bool (decide (mb<0)),.slice Ab (limbs (Int.natAbs mb)).length cb]) (fun X hX=>hX.2.2) rfl Tryz.underlying24 rfl (by kernel_rfl) dL rfl rfl rfl rfl rfl ?_
 refine Pl.aL (.pointer (some ⟨N2,2,none⟩)) dL rfl rfl rfl rfl (fun X=>by kernel_rfl) ?_
 refine Pl.iB (v:=.int .i64 eb) Tryz.underlying3 rfl (fun X hX=>Pl.Cb.at (j:=2) (hX.2.2) rfl) dL rfl rfl rfl rfl rfl ?_
 refine Pl.aG dL rfl ?_
 refine Pl.bP (v:=.int .i64 (eb-q)) (fun X=>jH (by omega) X) dL rfl rfl rfl rfl rfl rfl ?_
 refine Pl.aG dL rfl ?_
 refine Pl.ay rfl rfl rfl rfl rfl (fun u X=>Pl.enters Tryz.func65 (by kernel_rfl) rfl u X) ?_
 refine Calls.mono (kH _ _ ma (ea-q) (Zn.of (Un.below ua (Pl.Ex.trans hE1 (Pl.Ex.trans hE2 aJ)))) (Nat.le_trans da.sz (by omega)) (by omega) (by omega) (shl ma (ea-q)) rfl) ?_
 rintro e w4 ⟨va2,rfl,Rn,aP⟩
 obtain ⟨Aa2,ca2,rfl,ua2⟩:=Rn
 have kY:=Pl.Ex.size aP
 have fJ:=And.intro (Pl.Xs.trans dL.1 (Pl.Xs.ex aP)) (And.intro (Pl.Cb.ex dL.2.1 aP) (Pl.Cb.ex dL.2.2 aP))
 refine ⟨_,rfl,fJ,?_⟩
 refine Pl.ay rfl rfl rfl rfl rfl (fun u X=>Pl.enters Tryz.func65 (by kernel_rfl) rfl u X) ?_
 refine Calls.mono (kH _ _ mb (eb-q) (Zn.of (Un.below ub (Pl.Ex.trans hE1 (Pl.Ex.trans hE2 (Pl.Ex.trans aJ aP))))) (Nat.le_trans db.sz (by omega)) (by omega) (by omega) (shl mb (eb-q)) rfl) ?_
 rintro e w5 ⟨vb2,rfl,Ro,aW⟩
 obtain ⟨Ab2,cb2,rfl,ub2⟩:=Ro
 have mI:=Pl.Ex.size aW
 have hS5:=And.intro (Pl.Xs.trans fJ.1 (Pl.Xs.ex aW)) (And.intro (Pl.Cb.ex fJ.2.1 aW) (Pl.Cb.ex fJ.2.2 aW))
 refine ⟨_,rfl,hS5,?_⟩
 refine Pl.oC rfl rfl rfl rfl rfl rfl (fun u X=>Pl.enters Tryz.func73 (by kernel_rfl) rfl u X) ?_
 refine Calls.mono (KL _ (hg.ext (Pl.Ex.trans hE1 (Pl.Ex.trans hE2 (Pl.Ex.trans aJ (Pl.Ex.trans aP aW))))) N (Pl.Cb.ex kN (Pl.Ex.trans hE1 (Pl.Ex.trans hE2 (Pl.Ex.trans aJ (Pl.Ex.trans aP aW))))) _ _ (shl ma (ea-q)) (shl mb (eb-q)) q (Zn.of (Un.below ua2 aW)) (Zn.of ub2) (YD.le (by omega)) (YE.le (by omega)) (L+J+1) (Sz.add YD YE (Nat.le_refl _) (Nat.le_refl _)) (by omega) (by omega) lo2 hi2 (by omega) (by omega) (by omega) (by omega)) ?_
 rintro e w6 ⟨rfl,jY,m1,e1,A1,c1,g1,u1,d1⟩
 refine ⟨_,rfl,⟨Pl.Xs.trans hS5.1 jY,Pl.Cb.xs hS5.2.1 jY (by simp;omega),Pl.Cb.xs hS5.2.2 jY (by simp;omega)⟩,?_⟩
 refine Pl.aj ?_
 repeat refine Pl.af ?_
 exact Pl.nM rfl ⟨rfl,Pl.Xs.trans (Pl.Xs.ex (Pl.Ex.trans hE1 (Pl.Ex.trans hE2 (Pl.Ex.trans aJ (Pl.Ex.trans aP aW))))) jY,m1,e1,A1,c1,g1,u1,d1.can,by rw [d1.val,Dy.KI,uw hqa,uw LM,da.val,db.val],d1.sz,d1.lo,d1.hi⟩
theorem Rp (w:World) (hg:Gt w) (N:Nat) (kN:Pl.Cb w N 26 [.bool false,.slice none 0 0,.int .i64 0]) (va vb:Value) (x y:Rat) (L J:Nat) (lo hi:Int) (ha:Dn w va x L lo hi) (hb:Dn w vb y L lo hi) (hJ:hi-lo≤32*J) (hL:L+J+1≤20000) (hlo : -900000≤lo) (hhi:hi≤900000) (lo2 hi2:Int) (h1:lo2≤lo-1) (h2:hi+32*(L+J+1:Nat)≤hi2) (h3:lo2≤0) (h4:0≤hi2) :
  Calls Tryz.prog 68 #[va,vb,.func (.func 77) #[] #[.pointer (some ⟨N,0,none⟩)]] w fun e w'=>e = .returned (.tuple #[])∧Pl.Xs [N] w w'∧∃ m e2 A c,Pl.Cb w' N 26 [.bool (decide (m<0)),.slice A (limbs m.natAbs).length c,.int .i64 e2]∧Un w' (.slice A (limbs m.natAbs).length c) m.natAbs∧Dd m e2 ((x+y)/2) (L+J+1) lo2 hi2:=by
 obtain ⟨ma,ea,Aa,ca,rfl,ua,da⟩:=ha
 have yx:=da.lo
 have yz:=da.hi
 obtain ⟨mb,eb,Ab,cb,rfl,ub,db⟩:=hb
 have Ny:=db.lo
 have Nz:=db.hi
 have zN:=Pl.Cb.lt kN
 obtain ⟨q,hq⟩:∃ q,min ea eb=q:=⟨_,rfl⟩
 have hqa:q≤ea:=by omega
 have LM:q≤eb:=by omega
 have Ot:lo≤q:=by omega
 have YD:Sz (shl ma (ea-q)) (L+J):=jF (j:=J) da.sz (by omega) (Nat.le_refl _)
 have YE:Sz (shl mb (eb-q)) (L+J):=jF (j:=J) db.sz (by omega) (Nat.le_refl _)
 refine Pl.aN (n:=29) (vs:=[.agg #[.bool (decide (ma<0)),.slice Aa (limbs (Int.natAbs ma)).length ca,.int .i64 ea],.agg #[.bool (decide (mb<0)),.slice Ab (limbs (Int.natAbs mb)).length cb,.int .i64 eb],.func (.func 77) #[] #[.pointer (some ⟨N,0,none⟩)]]) Tryz.func68 rfl (by kernel_rfl) (by simp) ?_
 repeat refine Pl.af ?_
 refine Pl.ah (by kernel_rfl) ?_
 refine Pl.bF (cs:=[.bool (decide (ma<0)),.slice Aa (limbs (Int.natAbs ma)).length ca,.int .i64 ea]) rfl rfl rfl rfl rfl rfl (fun Y hY=>trivial) ?_
 intro N1 w1 hE1 bT ak
 have dP:=Pl.Cb.lt ak
 have jC:=Pl.Ex.size hE1
 refine Pl.bF (cs:=[.bool (decide (mb<0)),.slice Ab (limbs (Int.natAbs mb)).length cb,.int .i64 eb]) rfl rfl rfl rfl rfl rfl (fun Y hY=>trivial) ?_
 intro N2 w2 hE2 dU aA
 have iq:=Pl.Cb.lt aA
 have jM:=Pl.Ex.size hE2
 refine Pl.aj ?_
 repeat refine Pl.af ?_
 refine Pl.ah (by kernel_rfl) ?_
 refine Pl.aL (.pointer (some ⟨N1,2,none⟩)) trivial rfl rfl rfl rfl (fun X=>by kernel_rfl) ?_
 refine Pl.bD (v:=.int .i64 ea) Tryz.underlying3 rfl (Pl.Cb.at (j:=2) (Pl.Cb.ex ak hE2) rfl) trivial rfl rfl rfl rfl rfl ?_
 refine Pl.aL (.pointer (some ⟨N2,2,none⟩)) trivial rfl rfl rfl rfl (fun X=>by kernel_rfl) ?_
 refine Pl.bD (v:=.int .i64 eb) Tryz.underlying3 rfl (Pl.Cb.at (j:=2) aA rfl) trivial rfl rfl rfl rfl rfl ?_
 refine KJ (a:=ea) (b:=eb) trivial rfl rfl rfl rfl rfl rfl ?_
 rw [hq]
 refine Pl.aG trivial rfl ?_
 refine Pl.aj ?_
 repeat refine Pl.af ?_
 refine Pl.fU (S:=fun X=>Pl.Xs [N] w X∧Pl.Cb X N1 26 [.bool (decide (ma<0)),.slice Aa (limbs (Int.natAbs ma)).length ca,.int .i64 ea]∧Pl.Cb X N2 26 [.bool (decide (mb<0)),.slice Ab (limbs (Int.natAbs mb)).length cb,.int .i64 eb]) [(true,0,0),(true,1,1),(true,2,3),(true,3,7),(true,4,15),(true,5,31),(true,6,63),(true,8,127),(true,9,383),(true,10,895),(true,11,1919),(true,12,3967),(true,13,8063),(true,15,16255),(false,7,49023),(false,14,49151),(false,16,65535)] fo Pl.aR (by kernel_rfl) ⟨Pl.Xs.ex (Pl.Ex.trans (Pl.Ex.trans hE1 hE2) (Pl.Ex.drew _)),Pl.Cb.ex (Pl.Cb.ex ak hE2) (Pl.Ex.drew _),Pl.Cb.ex aA (Pl.Ex.drew _)⟩ ?_
 have aJ:=Pl.Ex.drew w2
 generalize w2.drew=w3 at *
 have jX:=Pl.Ex.size aJ
 intro dL
 refine Pl.aG dL rfl ?_
 refine Pl.aL (.pointer (some ⟨N1,0,none⟩)) dL rfl rfl rfl rfl (fun X=>by kernel_rfl) ?_
 refine Pl.bn (part:=[.bool (decide (ma<0)),.slice Aa (limbs (Int.natAbs ma)).length ca]) (fun X hX=>hX.2.1) rfl Tryz.underlying24 rfl (by kernel_rfl) dL rfl rfl rfl rfl rfl ?_
 refine Pl.aL (.pointer (some ⟨N1,2,none⟩)) dL rfl rfl rfl rfl (fun X=>by kernel_rfl) ?_
 refine Pl.iB (v:=.int .i64 ea) Tryz.underlying3 rfl (fun X hX=>Pl.Cb.at (j:=2) (hX.2.1) rfl) dL rfl rfl rfl rfl rfl ?_
 refine Pl.aG dL rfl ?_
 refine Pl.bP (v:=.int .i64 (ea-q)) (fun X=>jH (by omega) X) dL rfl rfl rfl rfl rfl rfl ?_
 refine Pl.aL (.pointer (some ⟨N2,0,none⟩)) dL rfl rfl rfl rfl (fun X=>by kernel_rfl) ?_
 refine Pl.bn (part:=[.bool (decide (mb<0)),.slice Ab (limbs (Int.natAbs mb)).length cb]) (fun X hX=>hX.2.2) rfl Tryz.underlying24 rfl (by kernel_rfl) dL rfl rfl rfl rfl rfl ?_
 refine Pl.aL (.pointer (some ⟨N2,2,none⟩)) dL rfl rfl rfl rfl (fun X=>by kernel_rfl) ?_
 refine Pl.iB (v:=.int .i64 eb) Tryz.underlying3 rfl (fun X hX=>Pl.Cb.at (j:=2) (hX.2.2) rfl) dL rfl rfl rfl rfl rfl ?_
 refine Pl.aG dL rfl ?_
 refine Pl.bP (v:=.int .i64 (eb-q)) (fun X=>jH (by omega) X) dL rfl rfl rfl rfl rfl rfl ?_
 refine Pl.aG dL rfl ?_
 refine Pl.ay rfl rfl rfl rfl rfl (fun u X=>Pl.enters Tryz.func65 (by kernel_rfl) rfl u X) ?_
 refine Calls.mono (kH _ _ ma (ea-q) (Zn.of (Un.below ua (Pl.Ex.trans hE1 (Pl.Ex.trans hE2 aJ)))) (Nat.le_trans da.sz (by omega)) (by omega) (by omega) (shl ma (ea-q)) rfl) ?_
 rintro e w4 ⟨va2,rfl,Rn,aP⟩
 obtain ⟨Aa2,ca2,rfl,ua2⟩:=Rn
 have kY:=Pl.Ex.size aP
 have fJ:=And.intro (Pl.Xs.trans dL.1 (Pl.Xs.ex aP)) (And.intro (Pl.Cb.ex dL.2.1 aP) (Pl.Cb.ex dL.2.2 aP))
 refine ⟨_,rfl,fJ,?_⟩
 refine Pl.ay rfl rfl rfl rfl rfl (fun u X=>Pl.enters Tryz.func65 (by kernel_rfl) rfl u X) ?_
 refine Calls.mono (kH _ _ mb (eb-q) (Zn.of (Un.below ub (Pl.Ex.trans hE1 (Pl.Ex.trans hE2 (Pl.Ex.trans aJ aP))))) (Nat.le_trans db.sz (by omega)) (by omega) (by omega) (shl mb (eb-q)) rfl) ?_
 rintro e w5 ⟨vb2,rfl,Ro,aW⟩
 obtain ⟨Ab2,cb2,rfl,ub2⟩:=Ro
 have mI:=Pl.Ex.size aW
 have hS5:=And.intro (Pl.Xs.trans fJ.1 (Pl.Xs.ex aW)) (And.intro (Pl.Cb.ex fJ.2.1 aW) (Pl.Cb.ex fJ.2.2 aW))
 refine ⟨_,rfl,hS5,?_⟩
 refine Pl.oC rfl rfl rfl rfl rfl rfl (fun u X=>Pl.enters Tryz.func77 (by kernel_rfl) rfl u X) ?_
 refine Calls.mono (KM _ (hg.ext (Pl.Ex.trans hE1 (Pl.Ex.trans hE2 (Pl.Ex.trans aJ (Pl.Ex.trans aP aW))))) N (Pl.Cb.ex kN (Pl.Ex.trans hE1 (Pl.Ex.trans hE2 (Pl.Ex.trans aJ (Pl.Ex.trans aP aW))))) _ _ (shl ma (ea-q)) (shl mb (eb-q)) q (Zn.of (Un.below ua2 aW)) (Zn.of ub2) (YD.le (by omega)) (YE.le (by omega)) (L+J+1) (Sz.add YD YE (Nat.le_refl _) (Nat.le_refl _)) (by omega) (by omega) lo2 hi2 (by omega) (by omega) (by omega) (by omega)) ?_
 rintro e w6 ⟨rfl,jY,m1,e1,A1,c1,g1,u1,d1⟩
 refine ⟨_,rfl,⟨Pl.Xs.trans hS5.1 jY,Pl.Cb.xs hS5.2.1 jY (by simp;omega),Pl.Cb.xs hS5.2.2 jY (by simp;omega)⟩,?_⟩
 refine Pl.aj ?_
 repeat refine Pl.af ?_
 exact Pl.nM rfl ⟨rfl,Pl.Xs.trans (Pl.Xs.ex (Pl.Ex.trans hE1 (Pl.Ex.trans hE2 (Pl.Ex.trans aJ (Pl.Ex.trans aP aW))))) jY,m1,e1,A1,c1,g1,u1,d1.can,by rw [d1.val,Dy.UG,Dy.KI,uw hqa,uw LM,da.val,db.val],d1.sz,d1.lo,d1.hi⟩
theorem Rs (w:World) (hg:Gt w) (N:Nat) (kN:Pl.Cb w N 3 [.int .i64 0]) (va vb:Value) (x y:Rat) (L J:Nat) (lo hi:Int) (ha:Dn w va x L lo hi) (hb:Dn w vb y L lo hi) (hJ:hi-lo≤32*J) (hL:L+J+1≤20000) (hlo : -900000≤lo) (hhi:hi≤900000) (lo2 hi2:Int) (h1:lo2≤lo-1) (h2:hi+32*(L+J+1:Nat)≤hi2) (h3:lo2≤0) (h4:0≤hi2) :
  Calls Tryz.prog 68 #[va,vb,.func (.func 69) #[] #[.pointer (some ⟨N,0,none⟩)]] w fun e w'=>e = .returned (.tuple #[])∧Pl.Xs [N] w w'∧∃ k,Pl.Cb w' N 3 [.int .i64 k]∧ET x y k:=by
 obtain ⟨ma,ea,Aa,ca,rfl,ua,da⟩:=ha
 have yx:=da.lo
 have yz:=da.hi
 obtain ⟨mb,eb,Ab,cb,rfl,ub,db⟩:=hb
 have Ny:=db.lo
 have Nz:=db.hi
 have zN:=Pl.Cb.lt kN
 obtain ⟨q,hq⟩:∃ q,min ea eb=q:=⟨_,rfl⟩
 have hqa:q≤ea:=by omega
 have LM:q≤eb:=by omega
 have Ot:lo≤q:=by omega
 have YD:Sz (shl ma (ea-q)) (L+J):=jF (j:=J) da.sz (by omega) (Nat.le_refl _)
 have YE:Sz (shl mb (eb-q)) (L+J):=jF (j:=J) db.sz (by omega) (Nat.le_refl _)
 refine Pl.aN (n:=29) (vs:=[.agg #[.bool (decide (ma<0)),.slice Aa (limbs (Int.natAbs ma)).length ca,.int .i64 ea],.agg #[.bool (decide (mb<0)),.slice Ab (limbs (Int.natAbs mb)).length cb,.int .i64 eb],.func (.func 69) #[] #[.pointer (some ⟨N,0,none⟩)]]) Tryz.func68 rfl (by kernel_rfl) (by simp) ?_
 repeat refine Pl.af ?_
 refine Pl.ah (by kernel_rfl) ?_
 refine Pl.bF (cs:=[.bool (decide (ma<0)),.slice Aa (limbs (Int.natAbs ma)).length ca,.int .i64 ea]) rfl rfl rfl rfl rfl rfl (fun Y hY=>trivial) ?_
 intro N1 w1 hE1 bT ak
 have dP:=Pl.Cb.lt ak
 have jC:=Pl.Ex.size hE1
 refine Pl.bF (cs:=[.bool (decide (mb<0)),.slice Ab (limbs (Int.natAbs mb)).length cb,.int .i64 eb]) rfl rfl rfl rfl rfl rfl (fun Y hY=>trivial) ?_
 intro N2 w2 hE2 dU aA
 have iq:=Pl.Cb.lt aA
 have jM:=Pl.Ex.size hE2
 refine Pl.aj ?_
 repeat refine Pl.af ?_
 refine Pl.ah (by kernel_rfl) ?_
 refine Pl.aL (.pointer (some ⟨N1,2,none⟩)) trivial rfl rfl rfl rfl (fun X=>by kernel_rfl) ?_
 refine Pl.bD (v:=.int .i64 ea) Tryz.underlying3 rfl (Pl.Cb.at (j:=2) (Pl.Cb.ex ak hE2) rfl) trivial rfl rfl rfl rfl rfl ?_
 refine Pl.aL (.pointer (some ⟨N2,2,none⟩)) trivial rfl rfl rfl rfl (fun X=>by kernel_rfl) ?_
 refine Pl.bD (v:=.int .i64 eb) Tryz.underlying3 rfl (Pl.Cb.at (j:=2) aA rfl) trivial rfl rfl rfl rfl rfl ?_
 refine KJ (a:=ea) (b:=eb) trivial rfl rfl rfl rfl rfl rfl ?_
 rw [hq]
 refine Pl.aG trivial rfl ?_
 refine Pl.aj ?_
 repeat refine Pl.af ?_
 refine Pl.fU (S:=fun X=>Pl.Xs [N] w X∧Pl.Cb X N1 26 [.bool (decide (ma<0)),.slice Aa (limbs (Int.natAbs ma)).length ca,.int .i64 ea]∧Pl.Cb X N2 26 [.bool (decide (mb<0)),.slice Ab (limbs (Int.natAbs mb)).length cb,.int .i64 eb]) [(true,0,0),(true,1,1),(true,2,3),(true,3,7),(true,4,15),(true,5,31),(true,6,63),(true,8,127),(true,9,383),(true,10,895),(true,11,1919),(true,12,3967),(true,13,8063),(true,15,16255),(false,7,49023),(false,14,49151),(false,16,65535)] fo Pl.aR (by kernel_rfl) ⟨Pl.Xs.ex (Pl.Ex.trans (Pl.Ex.trans hE1 hE2) (Pl.Ex.drew _)),Pl.Cb.ex (Pl.Cb.ex ak hE2) (Pl.Ex.drew _),Pl.Cb.ex aA (Pl.Ex.drew _)⟩ ?_
 have aJ:=Pl.Ex.drew w2
 generalize w2.drew=w3 at *
 have jX:=Pl.Ex.size aJ
 intro dL
 refine Pl.aG dL rfl ?_
 refine Pl.aL (.pointer (some ⟨N1,0,none⟩)) dL rfl rfl rfl rfl (fun X=>by kernel_rfl) ?_
 refine Pl.bn (part:=[.bool (decide (ma<0)),.slice Aa (limbs (Int.natAbs ma)).length ca]) (fun X hX=>hX.2.1) rfl Tryz.underlying24 rfl (by kernel_rfl) dL rfl rfl rfl rfl rfl ?_
 refine Pl.aL (.pointer (some ⟨N1,2,none⟩)) dL rfl rfl rfl rfl (fun X=>by kernel_rfl) ?_
 refine Pl.iB (v:=.int .i64 ea) Tryz.underlying3 rfl (fun X hX=>Pl.Cb.at (j:=2) (hX.2.1) rfl) dL rfl rfl rfl rfl rfl ?_
 refine Pl.aG dL rfl ?_
 refine Pl.bP (v:=.int .i64 (ea-q)) (fun X=>jH (by omega) X) dL rfl rfl rfl rfl rfl rfl ?_
 refine Pl.aL (.pointer (some ⟨N2,0,none⟩)) dL rfl rfl rfl rfl (fun X=>by kernel_rfl) ?_
 refine Pl.bn (part:=[.bool (decide (mb<0)),.slice Ab (limbs (Int.natAbs mb)).length cb]) (fun X hX=>hX.2.2) rfl Tryz.underlying24 rfl (by kernel_rfl) dL rfl rfl rfl rfl rfl ?_
 refine Pl.aL (.pointer (some ⟨N2,2,none⟩)) dL rfl rfl rfl rfl (fun X=>by kernel_rfl) ?_
 refine Pl.iB (v:=.int .i64 eb) Tryz.underlying3 rfl (fun X hX=>Pl.Cb.at (j:=2) (hX.2.2) rfl) dL rfl rfl rfl rfl rfl ?_
 refine Pl.aG dL rfl ?_
 refine Pl.bP (v:=.int .i64 (eb-q)) (fun X=>jH (by omega) X) dL rfl rfl rfl rfl rfl rfl ?_
 refine Pl.aG dL rfl ?_
 refine Pl.ay rfl rfl rfl rfl rfl (fun u X=>Pl.enters Tryz.func65 (by kernel_rfl) rfl u X) ?_
 refine Calls.mono (kH _ _ ma (ea-q) (Zn.of (Un.below ua (Pl.Ex.trans hE1 (Pl.Ex.trans hE2 aJ)))) (Nat.le_trans da.sz (by omega)) (by omega) (by omega) (shl ma (ea-q)) rfl) ?_
 rintro e w4 ⟨va2,rfl,Rn,aP⟩
 obtain ⟨Aa2,ca2,rfl,ua2⟩:=Rn
 have kY:=Pl.Ex.size aP
 have fJ:=And.intro (Pl.Xs.trans dL.1 (Pl.Xs.ex aP)) (And.intro (Pl.Cb.ex dL.2.1 aP) (Pl.Cb.ex dL.2.2 aP))
 refine ⟨_,rfl,fJ,?_⟩
 refine Pl.ay rfl rfl rfl rfl rfl (fun u X=>Pl.enters Tryz.func65 (by kernel_rfl) rfl u X) ?_
 refine Calls.mono (kH _ _ mb (eb-q) (Zn.of (Un.below ub (Pl.Ex.trans hE1 (Pl.Ex.trans hE2 (Pl.Ex.trans aJ aP))))) (Nat.le_trans db.sz (by omega)) (by omega) (by omega) (shl mb (eb-q)) rfl) ?_
 rintro e w5 ⟨vb2,rfl,Ro,aW⟩
 obtain ⟨Ab2,cb2,rfl,ub2⟩:=Ro
 have mI:=Pl.Ex.size aW
 have hS5:=And.intro (Pl.Xs.trans fJ.1 (Pl.Xs.ex aW)) (And.intro (Pl.Cb.ex fJ.2.1 aW) (Pl.Cb.ex fJ.2.2 aW))
 refine ⟨_,rfl,hS5,?_⟩
 refine Pl.oC rfl rfl rfl rfl rfl rfl (fun u X=>Pl.enters Tryz.func69 (by kernel_rfl) rfl u X) ?_
 refine Calls.mono (KN _ N (Pl.Cb.ex kN (Pl.Ex.trans hE1 (Pl.Ex.trans hE2 (Pl.Ex.trans aJ (Pl.Ex.trans aP aW))))) _ _ (shl ma (ea-q)) (shl mb (eb-q)) q (Zn.of (Un.below ua2 aW)) (Zn.of ub2)) ?_
 rintro e w6 ⟨rfl,jY,k,g1,hk⟩
 refine ⟨_,rfl,⟨Pl.Xs.trans hS5.1 jY,Pl.Cb.xs hS5.2.1 jY (by simp;omega),Pl.Cb.xs hS5.2.2 jY (by simp;omega)⟩,?_⟩
 refine Pl.aj ?_
 repeat refine Pl.af ?_
 exact Pl.nM rfl ⟨rfl,Pl.Xs.trans (Pl.Xs.ex (Pl.Ex.trans hE1 (Pl.Ex.trans hE2 (Pl.Ex.trans aJ (Pl.Ex.trans aP aW))))) jY,k,g1,UZ (UY hqa LM) da.val db.val hk⟩
end Go.Proofs.YtdpmbgomcjnohaaGreatDoor
