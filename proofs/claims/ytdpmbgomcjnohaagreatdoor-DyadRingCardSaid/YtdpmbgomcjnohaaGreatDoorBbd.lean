/- The laws: small numbers. -/
import Derived.Test.YtdpmbgomcjnohaaGreatDoorBbc

namespace Go.Proofs.YtdpmbgomcjnohaaGreatDoor
open Go.RowKit 
set_option linter.all false
set_option maxRecDepth 100000
set_option maxHeartbeats 8000000
theorem yT {m e lo hi n:Int} {x:Rat} {L J:Nat} (d:Dd m e x L lo hi) (h:hi+n≤32*(J:Int)):Sz (Rat.floor (x*2^n)) (L+J):=by
 have h1:=d.hi
 rw [← d.val,Dy.scaled]
 exact qP (j:=J) d.sz (by omega) (Nat.le_refl _)
theorem kM (w:World) (m ee:Int) (hm : -4294967296<m∧m<4294967296) (he : -1000000≤ee∧ee≤1000000) :
  Calls Tryz.prog 58 #[.int .i64 m,.int .i64 ee] w fun e w'=>∃ A c,e = .returned (.agg #[.bool (decide (m<0)),.slice A (limbs m.natAbs).length c,.int .i64 ee])∧Un w' (.slice A (limbs m.natAbs).length c) m.natAbs∧Pl.Ex w w':=by
 refine Pl.bL (n:=9) (vs:=[.int .i64 m,.int .i64 ee]) Tryz.func58 rfl (by kernel_rfl) (by simp) ?_
 repeat refine Pl.ay ?_
 refine Pl.aB (by kernel_rfl) ?_
 refine Pl.aU (z:=.agg #[.bool false,.slice none 0 0,.int .i64 0]) (by kernel_rfl) rfl rfl rfl rfl (fun Y hY=>trivial) ?_
 intro N1 w1 hE1 eP aC
 have ig:=Pl.Cb.lt aC
 have mH:=Pl.Ex.size hE1
 replace aC:Pl.Cb w1 N1 26 [.bool false,.slice none 0 0,.int .i64 0]:=aC
 refine Pl.af ?_
 repeat refine Pl.ay ?_
 refine Pl.aB (by kernel_rfl) ?_
 refine Pl.aG trivial rfl ?_
 refine Pl.ah rfl rfl rfl rfl rfl (fun u X=>Pl.enters Tryz.func53 (by kernel_rfl) rfl u X) ?_
 refine Calls.mono (Bg _ m (by omega) (by omega)) ?_
 rintro e w2 ⟨v1,rfl,hv1,hE2⟩
 obtain ⟨A1,c1,rfl,u1⟩:=hv1
 have mY:=Pl.Ex.size hE2
 refine ⟨_,rfl,trivial,?_⟩
 refine Pl.aG trivial rfl ?_
 refine Pl.bC (.agg #[.bool (decide (m<0)),.slice A1 (limbs (Int.natAbs m)).length c1,.int .i64 ee]) trivial rfl rfl rfl rfl (fun X=>by kernel_rfl) ?_
 refine Pl.bg (new:=[.bool (decide (m<0)),.slice A1 (limbs (Int.natAbs m)).length c1,.int .i64 ee]) (Pl.Cb.ex aC hE2) (by kernel_rfl) rfl (by simp [Value.oneCell']) rfl rfl rfl rfl rfl rfl (fun Y hY=>trivial) ?_
 intro w3 Fa lF
 have aO:=Pl.Ex.xs (Pl.Ex.trans hE1 hE2) Fa (by omega)
 have mZ:=Pl.Xs.size Fa
 refine Pl.af ?_
 have k2:=Un.xs u1 Fa (Pl.Cb.ex aC hE2) (by simp)
 repeat refine Pl.ay ?_
 exact Pl.cO rfl rfl lF Tryz.underlying26 rfl (by kernel_rfl) (⟨_,_,rfl,k2,aO⟩)
theorem xk (w:World) (m n:Int) (hm : -4294967296<m∧m<4294967296) (hn : -4294967296<n∧n<4294967296) (h0:n≠0) :
  Calls Tryz.prog 57 #[.int .i64 m,.int .i64 n] w fun e w'=>∃ u,e = .returned u∧Qn w' u (Rat.divInt m n) 1 1∧Pl.Ex w w':=by
 refine Pl.bL (n:=16) (vs:=[.int .i64 m,.int .i64 n]) Tryz.func57 rfl (by kernel_rfl) (by simp) ?_
 repeat refine Pl.ay ?_
 refine Pl.aB (by kernel_rfl) ?_
 refine Pl.aU (z:=.agg #[.bool false,.slice none 0 0,.slice none 0 0]) (by kernel_rfl) rfl rfl rfl rfl (fun Y hY=>trivial) ?_
 intro N1 w1 hE1 eP aC
 have ig:=Pl.Cb.lt aC
 have mH:=Pl.Ex.size hE1
 replace aC:Pl.Cb w1 N1 41 [.bool false,.slice none 0 0,.slice none 0 0]:=aC
 refine Pl.af ?_
 repeat refine Pl.ay ?_
 refine Pl.aB (by kernel_rfl) ?_
 refine Pl.aG trivial rfl ?_
 refine Pl.ah rfl rfl rfl rfl rfl (fun u X=>Pl.enters Tryz.func53 (by kernel_rfl) rfl u X) ?_
 refine Calls.mono (Bg _ m (by omega) (by omega)) ?_
 rintro e w2 ⟨v1,rfl,hv1,hE2⟩
 obtain ⟨Aq1,cq1,rfl,uq1⟩:=hv1
 have mY:=Pl.Ex.size hE2
 refine ⟨_,rfl,trivial,?_⟩
 refine Pl.aG trivial rfl ?_
 refine Pl.ah rfl rfl rfl rfl rfl (fun u X=>Pl.enters Tryz.func53 (by kernel_rfl) rfl u X) ?_
 refine Calls.mono (Bg _ n (by omega) (by omega)) ?_
 rintro e w3 ⟨v2,rfl,hv2,aO⟩
 obtain ⟨Aq2,cq2,rfl,uq2⟩:=hv2
 have mZ:=Pl.Ex.size aO
 refine ⟨_,rfl,trivial,?_⟩
 refine Pl.ah rfl rfl rfl rfl rfl (fun u X=>Pl.enters Tryz.func97 (by kernel_rfl) rfl u X) ?_
 refine Calls.mono (oH _ _ _ m n (Zn.of (Un.below uq1 aO)) (Zn.of uq2) 1 1 (Sz.lit (by omega) (by decide)) (Sz.lit (by omega) (by decide)) (by decide) (by decide) h0) ?_
 rintro e w4 ⟨v2,rfl,hv2,aR⟩
 obtain ⟨A3,c4,A5,c6,rfl,u7,u8,q9z,q9d⟩:=hv2
 have l9:=Pl.Ex.size aR
 refine ⟨_,rfl,trivial,?_⟩
 refine Pl.aG trivial rfl ?_
 refine Pl.aU (z:=.agg #[.bool false,.slice none 0 0,.slice none 0 0]) (by kernel_rfl) rfl rfl rfl rfl (fun Y hY=>trivial) ?_
 intro rM w5 aP EF jE
 have jA:=Pl.Cb.lt jE
 have jY:=Pl.Ex.size aP
 replace jE:Pl.Cb w5 rM 41 [.bool false,.slice none 0 0,.slice none 0 0]:=jE
 refine Pl.bg (new:=[.bool (decide ((Rat.num (Rat.divInt m n))<0)),.slice A3 (limbs (Int.natAbs (Rat.num (Rat.divInt m n)))).length c4,.slice A5 (limbs (Rat.den (Rat.divInt m n))).length c6]) jE (by kernel_rfl) rfl (by simp [Value.oneCell']) rfl rfl rfl rfl rfl rfl (fun Y hY=>trivial) ?_
 intro w6 lS rG
 have aM:=Pl.Ex.xs aP lS (by omega)
 have jr:=Pl.Xs.size lS
 refine Pl.aG trivial rfl ?_
 refine Pl.af ?_
 repeat refine Pl.ay ?_
 refine Pl.aB (by kernel_rfl) ?_
 refine Pl.dJ (part:=[.bool (decide ((Rat.num (Rat.divInt m n))<0)),.slice A3 (limbs (Int.natAbs (Rat.num (Rat.divInt m n)))).length c4,.slice A5 (limbs (Rat.den (Rat.divInt m n))).length c6]) rG rfl Tryz.underlying41 rfl (by kernel_rfl) trivial rfl rfl rfl rfl rfl ?_
 refine Pl.bg (new:=[.bool (decide ((Rat.num (Rat.divInt m n))<0)),.slice A3 (limbs (Int.natAbs (Rat.num (Rat.divInt m n)))).length c4,.slice A5 (limbs (Rat.den (Rat.divInt m n))).length c6]) (Pl.Cb.ex aC (Pl.Ex.trans hE2 (Pl.Ex.trans aO (Pl.Ex.trans aR aM)))) (by kernel_rfl) rfl (by simp [Value.oneCell']) rfl rfl rfl rfl rfl rfl (fun Y hY=>trivial) ?_
 intro w7 gP lF
 have aH:=Pl.Ex.xs (Pl.Ex.trans hE1 (Pl.Ex.trans hE2 (Pl.Ex.trans aO (Pl.Ex.trans aR aM)))) gP (by omega)
 have iU:=Pl.Xs.size gP
 have ajo:=Pl.Cb.xs rG gP (by simp;omega)
 refine Pl.af ?_
 have k11:=Un.xs (Un.below u7 aM) gP (Pl.Cb.ex aC (Pl.Ex.trans hE2 (Pl.Ex.trans aO (Pl.Ex.trans aR aM)))) (by simp)
 have k12:=Un.xs (Un.below u8 aM) gP (Pl.Cb.ex aC (Pl.Ex.trans hE2 (Pl.Ex.trans aO (Pl.Ex.trans aR aM)))) (by simp)
 repeat refine Pl.ay ?_
 exact Pl.cO rfl rfl lF Tryz.underlying41 rfl (by kernel_rfl) (⟨_,rfl,(Qn.mk k11 k12 q9z q9d),aH⟩)
end Go.Proofs.YtdpmbgomcjnohaaGreatDoor
