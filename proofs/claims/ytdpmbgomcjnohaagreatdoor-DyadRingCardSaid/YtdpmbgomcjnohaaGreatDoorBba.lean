/- Cut and Round. -/
import Derived.Test.YtdpmbgomcjnohaaGreatDoorBaz

namespace Go.Proofs.YtdpmbgomcjnohaaGreatDoor
open Go.RowKit 
set_option linter.all false
set_option maxRecDepth 100000
set_option maxHeartbeats 8000000
theorem X6 {n d:Int} {j K:Nat} (h:Sz n K) (hd:0<d):Sz (Dy.BX j ((n:Rat)/(d:Rat))) (K+1):=by
 have h1:Sz (n/d) K:=Sz.div h
 have h2:Sz (1:Int) 1:=Sz.lit (by decide) (by decide)
 rcases Dy.Ic j ((n:Rat)/(d:Rat)) with e | e
 · rw [e,Dy.rU hd];exact h1.le (by omega)
 · rw [e]
   unfold Dy.cl
   rw [show -((n:Rat)/(d:Rat))=(((-n:Int):Rat)/(d:Rat)) by rw [Rat.intCast_neg,Rat.div_def,Rat.div_def,Rat.neg_mul],Dy.rU hd]
   exact (Sz.neg (Sz.div (Sz.neg h))).le (by omega)
theorem O6 (w:World) (va:Value) (q:Rat) (n z:Int) (L M:Nat) (ha:Qn w va q L M) (hz:z<0∨5≤z) :
  Calls Tryz.prog 39 #[va,.int .i64 n,.int .i64 z] w fun e w'=>e = .returned (.tuple #[.agg #[.bool false,.slice none 0 0,.int .i64 0],.int .i64 1])∧Pl.Ex w w':=by
 obtain ⟨Aa,ca,Ba,ba,rfl,ua,ta,za,ya⟩:=ha
 refine Pl.bL (n:=40) (vs:=[.agg #[.bool (decide ((Rat.num q)<0)),.slice Aa (limbs (Int.natAbs (Rat.num q))).length ca,.slice Ba (limbs (Rat.den q)).length ba],.int .i64 n,.int .i64 z]) Tryz.func39 rfl (by kernel_rfl) (by simp) ?_
 repeat refine Pl.ay ?_
 refine Pl.aB (by kernel_rfl) ?_
 refine Pl.dN (cs:=[.bool (decide ((Rat.num q)<0)),.slice Aa (limbs (Int.natAbs (Rat.num q))).length ca,.slice Ba (limbs (Rat.den q)).length ba]) rfl rfl rfl rfl rfl rfl (fun Y hY=>trivial) ?_
 intro N1 w1 hE1 eP aC
 have ig:=Pl.Cb.lt aC
 have mH:=Pl.Ex.size hE1
 refine Pl.aU (z:=.agg #[.bool false,.slice none 0 0,.int .i64 0]) (by kernel_rfl) rfl rfl rfl rfl (fun Y hY=>trivial) ?_
 intro N2 w2 hE2 gD aD
 have iB:=Pl.Cb.lt aD
 have mY:=Pl.Ex.size hE2
 replace aD:Pl.Cb w2 N2 26 [.bool false,.slice none 0 0,.int .i64 0]:=aD
 refine Pl.aG trivial rfl ?_
 refine Pl.af ?_
 repeat refine Pl.ay ?_
 refine Pl.aB (by kernel_rfl) ?_
 refine Pl.ah rfl rfl rfl rfl rfl (fun u X=>Pl.enters Tryz.func85 (by kernel_rfl) rfl u X) ?_
 refine Calls.mono (Cr _) ?_
 rintro e w3 ⟨Na,Nb,rfl,ka,kb,aO⟩
 have mZ:=Pl.Ex.size aO
 refine ⟨_,rfl,trivial,?_⟩
 refine Pl.aU (z:=.agg #[.nilFunc,.nilFunc,.nilFunc,.nilFunc,.nilFunc]) (by kernel_rfl) rfl rfl rfl rfl (fun Y hY=>trivial) ?_
 intro N3 w4 aR jP aL
 have iJ:=Pl.Cb.lt aL
 have l9:=Pl.Ex.size aR
 replace aL:Pl.Cb w4 N3 93 [.nilFunc,.nilFunc,.nilFunc,.nilFunc,.nilFunc]:=aL
 refine Pl.bg (new:=[.func (.func 120) #[] #[],.func (.func 121) #[] #[],.func (.func 122) #[] #[.pointer (some ⟨Na,0,none⟩)],.func (.func 123) #[] #[.pointer (some ⟨Na,0,none⟩)],.func (.func 124) #[] #[.pointer (some ⟨Nb,0,none⟩)]]) aL (by kernel_rfl) rfl (by simp [Value.oneCell']) rfl rfl rfl rfl rfl rfl (fun Y hY=>trivial) ?_
 intro w5 kF dX
 have aP:=Pl.Ex.xs aR kF (by omega)
 have jY:=Pl.Xs.size kF
 refine Pl.af ?_
 repeat refine Pl.ay ?_
 refine Pl.aB (by kernel_rfl) ?_
 refine Pl.aG trivial rfl ?_
 by_cases c4:z<0
 · refine Pl.dO (v:=.bool true) (fun X=>Bh c4 X) trivial rfl rfl rfl rfl rfl rfl ?_
   refine Pl.aG trivial rfl ?_
   refine Pl.af ?_
   repeat refine Pl.ay ?_
   refine Pl.iO rfl ?_
   repeat refine Pl.ay ?_
   refine Pl.aB (by kernel_rfl) ?_
   refine Pl.bC (.agg #[.bool false,.slice none 0 0,.int .i64 0]) trivial rfl rfl rfl rfl (fun X=>by kernel_rfl) ?_
   refine Pl.bg (new:=[.bool false,.slice none 0 0,.int .i64 0]) (Pl.Cb.ex aD (Pl.Ex.trans aO aP)) (by kernel_rfl) rfl (by simp [Value.oneCell']) rfl rfl rfl rfl rfl rfl (fun Y hY=>trivial) ?_
   intro w6 lS dG
   have aM:=Pl.Ex.xs (Pl.Ex.trans hE2 (Pl.Ex.trans aO aP)) lS (by omega)
   have jr:=Pl.Xs.size lS
   have qR:=Pl.Cb.xs dX lS (by simp;omega)
   refine Pl.aG trivial rfl ?_
   refine Pl.af ?_
   repeat refine Pl.ay ?_
   exact Pl.nQ rfl rfl rfl dG Tryz.underlying26 rfl (by kernel_rfl) (⟨rfl,(Pl.Ex.trans hE1 aM)⟩)
 · refine Pl.dO (v:=.bool false) (fun X=>Bi c4 X) trivial rfl rfl rfl rfl rfl rfl ?_
   refine Pl.aG trivial rfl ?_
   refine Pl.dO (v:=.bool true) (fun X=>sU (by omega) X) trivial rfl rfl rfl rfl rfl rfl ?_
   refine Pl.aG trivial rfl ?_
   refine Pl.af ?_
   repeat refine Pl.ay ?_
   refine Pl.iO rfl ?_
   repeat refine Pl.ay ?_
   refine Pl.aB (by kernel_rfl) ?_
   refine Pl.bC (.agg #[.bool false,.slice none 0 0,.int .i64 0]) trivial rfl rfl rfl rfl (fun X=>by kernel_rfl) ?_
   refine Pl.bg (new:=[.bool false,.slice none 0 0,.int .i64 0]) (Pl.Cb.ex aD (Pl.Ex.trans aO aP)) (by kernel_rfl) rfl (by simp [Value.oneCell']) rfl rfl rfl rfl rfl rfl (fun Y hY=>trivial) ?_
   intro w6 lS dG
   have aM:=Pl.Ex.xs (Pl.Ex.trans hE2 (Pl.Ex.trans aO aP)) lS (by omega)
   have jr:=Pl.Xs.size lS
   have qR:=Pl.Cb.xs dX lS (by simp;omega)
   refine Pl.aG trivial rfl ?_
   refine Pl.af ?_
   repeat refine Pl.ay ?_
   exact Pl.nQ rfl rfl rfl dG Tryz.underlying26 rfl (by kernel_rfl) (⟨rfl,(Pl.Ex.trans hE1 aM)⟩)
theorem oh (w:World) (hg:Gt w) (va:Value) (q:Rat) (n:Int) (j:Nat) (hj:j<5) (L M J:Nat) (ha:Qn w va q L M) (hL:L+M+J≤900) (hn : -(32*(J:Int))≤n∧n≤32*(J:Int)) (lo2 hi2:Int) (h1:lo2 ≤ -n) (h2 : -n+32*(L+J+1:Nat)≤hi2) (h3:lo2≤0) (h4:0≤hi2) :
  Calls Tryz.prog 39 #[va,.int .i64 n,.int .i64 ((j:Nat):Int)] w fun e w'=>∃ u,e = .returned (.tuple #[u,.int .i64 0])∧Dn w' u (Dy.cut j q n) (L+J+1) lo2 hi2∧Pl.Ex w w':=by
 obtain ⟨Aa,ca,Ba,ba,rfl,ua,ta,za,ya⟩:=ha
 have ahg:Sz (shl q.num (max n 0)) (L+J):=qP (j:=J) za (by omega) (Nat.le_refl _)
 have alS:Sz (shl (q.den:Int) (max (-n) 0)) (M+J):=qP (j:=J) (Sn.sz ya) (by omega) (Nat.le_refl _)
 have ahh:0<shl (q.den:Int) (max (-n) 0):=Dy.Eb (by have:=q.den_pos;omega) (by omega)
 refine Pl.bL (n:=40) (vs:=[.agg #[.bool (decide ((Rat.num q)<0)),.slice Aa (limbs (Int.natAbs (Rat.num q))).length ca,.slice Ba (limbs (Rat.den q)).length ba],.int .i64 n,.int .i64 ((j:Nat):Int)]) Tryz.func39 rfl (by kernel_rfl) (by simp) ?_
 repeat refine Pl.ay ?_
 refine Pl.aB (by kernel_rfl) ?_
 refine Pl.dN (cs:=[.bool (decide ((Rat.num q)<0)),.slice Aa (limbs (Int.natAbs (Rat.num q))).length ca,.slice Ba (limbs (Rat.den q)).length ba]) rfl rfl rfl rfl rfl rfl (fun Y hY=>trivial) ?_
 intro N1 w1 hE1 eP aC
 have ig:=Pl.Cb.lt aC
 have mH:=Pl.Ex.size hE1
 refine Pl.aU (z:=.agg #[.bool false,.slice none 0 0,.int .i64 0]) (by kernel_rfl) rfl rfl rfl rfl (fun Y hY=>trivial) ?_
 intro N2 w2 hE2 gD aD
 have iB:=Pl.Cb.lt aD
 have mY:=Pl.Ex.size hE2
 replace aD:Pl.Cb w2 N2 26 [.bool false,.slice none 0 0,.int .i64 0]:=aD
 refine Pl.aG trivial rfl ?_
 refine Pl.af ?_
 repeat refine Pl.ay ?_
 refine Pl.aB (by kernel_rfl) ?_
 refine Pl.ah rfl rfl rfl rfl rfl (fun u X=>Pl.enters Tryz.func85 (by kernel_rfl) rfl u X) ?_
 refine Calls.mono (Cr _) ?_
 rintro e w3 ⟨Na,Nb,rfl,ka,kb,aO⟩
 have mZ:=Pl.Ex.size aO
 refine ⟨_,rfl,trivial,?_⟩
 refine Pl.aU (z:=.agg #[.nilFunc,.nilFunc,.nilFunc,.nilFunc,.nilFunc]) (by kernel_rfl) rfl rfl rfl rfl (fun Y hY=>trivial) ?_
 intro N3 w4 aR jP aL
 have iJ:=Pl.Cb.lt aL
 have l9:=Pl.Ex.size aR
 replace aL:Pl.Cb w4 N3 93 [.nilFunc,.nilFunc,.nilFunc,.nilFunc,.nilFunc]:=aL
 refine Pl.bg (new:=[.func (.func 120) #[] #[],.func (.func 121) #[] #[],.func (.func 122) #[] #[.pointer (some ⟨Na,0,none⟩)],.func (.func 123) #[] #[.pointer (some ⟨Na,0,none⟩)],.func (.func 124) #[] #[.pointer (some ⟨Nb,0,none⟩)]]) aL (by kernel_rfl) rfl (by simp [Value.oneCell']) rfl rfl rfl rfl rfl rfl (fun Y hY=>trivial) ?_
 intro w5 kF dX
 have aP:=Pl.Ex.xs aR kF (by omega)
 have jY:=Pl.Xs.size kF
 refine Pl.af ?_
 repeat refine Pl.ay ?_
 refine Pl.aB (by kernel_rfl) ?_
 refine Pl.aG trivial rfl ?_
 have ahi:¬ (j<0):=by omega
 refine Pl.dO (v:=.bool false) (fun X=>Pl.IP (decide_eq_false (by omega)) X) trivial rfl rfl rfl rfl rfl rfl ?_
 refine Pl.aG trivial rfl ?_
 have ahj:¬ (j≥5):=by omega
 refine Pl.dO (v:=.bool false) (fun X=>Pl.TQ (decide_eq_false (by omega)) X) trivial rfl rfl rfl rfl rfl rfl ?_
 refine Pl.aG trivial rfl ?_
 refine Pl.af ?_
 repeat refine Pl.ay ?_
 refine Pl.gm rfl ?_
 repeat refine Pl.ay ?_
 refine Pl.iK ?_
 repeat refine Pl.ay ?_
 refine Pl.Cg (fun l' w'=>∃ (Nx:Nat) (Ny:Nat) (Ax:Option Addr) (cx:Nat) (Ay:Option Addr) (cy:Nat),Pl.Ex w5 w'∧(Pl.Cb w' Nx 24 [.bool (decide ((shl (Rat.num q) (max n 0))<0)),.slice Ax (limbs (Int.natAbs (shl (Rat.num q) (max n 0)))).length cx])∧(Pl.Cb w' Ny 24 [.bool (decide ((shl ((Rat.den q:Nat):Int) (max (-n) 0))<0)),.slice Ay (limbs (Int.natAbs (shl ((Rat.den q:Nat):Int) (max (-n) 0)))).length cy])∧(w5.heap.size≤Nx∧w5.heap.size≤Ny)∧(Un w' (.slice Ax (limbs (Int.natAbs (shl (Rat.num q) (max n 0)))).length cx) (Int.natAbs (shl (Rat.num q) (max n 0))))∧(Un w' (.slice Ay (limbs (Int.natAbs (shl ((Rat.den q:Nat):Int) (max (-n) 0)))).length cy) (Int.natAbs (shl ((Rat.den q:Nat):Int) (max (-n) 0))))∧l'=[(1,.int .i64 n),(2,.int .i64 ((j:Nat):Int)),(6,.pointer (some ⟨N2,0,none⟩)),(7,.int .i64 0),(8,.pointer (some ⟨N3,0,none⟩)),(9,.pointer (some ⟨Nx,0,none⟩)),(10,.pointer (some ⟨Ny,0,none⟩))]) ?_ fun wz=>?_
 · rintro _ w6 ⟨Nx,Ny,Ax,cx,Ay,cy,aM,kNx,kNy,asX,ux,uy,rfl⟩
   have jr:=Pl.Ex.size aM
   repeat refine Pl.ay ?_
   refine Pl.fJ (S:=fun X=>Pl.Ex w1 X∧Pl.Cb X N3 93 [.func (.func 120) #[] #[],.func (.func 121) #[] #[],.func (.func 122) #[] #[.pointer (some ⟨Na,0,none⟩)],.func (.func 123) #[] #[.pointer (some ⟨Na,0,none⟩)],.func (.func 124) #[] #[.pointer (some ⟨Nb,0,none⟩)]]∧Pl.Cb X Nx 24 [.bool (decide ((shl (Rat.num q) (max n 0))<0)),.slice Ax (limbs (Int.natAbs (shl (Rat.num q) (max n 0)))).length cx]∧Pl.Cb X Ny 24 [.bool (decide ((shl ((Rat.den q:Nat):Int) (max (-n) 0))<0)),.slice Ay (limbs (Int.natAbs (shl ((Rat.den q:Nat):Int) (max (-n) 0)))).length cy]) [(true,0,0),(true,1,1),(true,2,3),(true,3,7),(true,4,15),(true,6,31),(true,7,95),(false,5,223),(false,8,255),(false,9,511),(true,10,1023)] fo Pl.az (by kernel_rfl) ⟨Pl.Ex.trans (Pl.Ex.trans hE2 (Pl.Ex.trans aO (Pl.Ex.trans aP aM))) (Pl.Ex.drew _),Pl.Cb.ex (Pl.Cb.ex dX aM) (Pl.Ex.drew _),Pl.Cb.ex kNx (Pl.Ex.drew _),Pl.Cb.ex kNy (Pl.Ex.drew _)⟩ ?_
   have aH:=Pl.Ex.drew w6
   generalize w6.drew=w7 at *
   have iU:=Pl.Ex.size aH
   intro bE
   refine Pl.aG bE rfl ?_
   refine Pl.zC (s:=1) (j:=j) Tryz.underlying93 (by kernel_rfl) rfl (by omega) bE rfl rfl rfl rfl rfl rfl ?_
   rw [X4]
   refine Pl.bT (q:=j) (part:=[R4 Na Nb j]) (fun X hX=>hX.2.1) (PK Na Nb hj) Tryz.underlying92 rfl (by kernel_rfl) bE rfl rfl rfl rfl rfl ?_
   refine Pl.bT (part:=[.bool (decide ((shl (Rat.num q) (max n 0))<0)),.slice Ax (limbs (Int.natAbs (shl (Rat.num q) (max n 0)))).length cx]) (fun X hX=>hX.2.2.1) rfl Tryz.underlying24 rfl (by kernel_rfl) bE rfl rfl rfl rfl rfl ?_
   refine Pl.bT (part:=[.bool (decide ((shl ((Rat.den q:Nat):Int) (max (-n) 0))<0)),.slice Ay (limbs (Int.natAbs (shl ((Rat.den q:Nat):Int) (max (-n) 0)))).length cy]) (fun X hX=>hX.2.2.2) rfl Tryz.underlying24 rfl (by kernel_rfl) bE rfl rfl rfl rfl rfl ?_
   refine Pl.aG bE rfl ?_
   refine Pl.mK (v:=.int .i64 (-n)) bE rfl rfl rfl rfl rfl (fun X=>uA (by omega) X) ?_
   refine Pl.ah rfl rfl rfl rfl rfl (fun u X=>Pl.enters Tryz.func87 (by kernel_rfl) rfl u X) ?_
   refine Calls.mono (I7 _ j hj Na Nb (Pl.Cb.ex ka (Pl.Ex.trans aP (Pl.Ex.trans aM aH))) (Pl.Cb.ex kb (Pl.Ex.trans aP (Pl.Ex.trans aM aH))) _ _ (shl (Rat.num q) (max n 0)) (shl ((Rat.den q:Nat):Int) (max (-n) 0)) (Zn.of (Un.below ux aH)) (Zn.of (Un.below uy aH)) (L+J) (M+J) ahg alS (by omega) (by omega) ahh) ?_
   rintro e w8 ⟨v4,rfl,hv4,bu⟩
   have lr:=X6 (j:=j) ahg ahh
   rw [show ((shl (Rat.num q) (max n 0):Int):Rat)/((shl ((Rat.den q:Nat):Int) (max (-n) 0):Int):Rat)=q*2^n from Dy.XP q n] at hv4 lr
   obtain ⟨A4,c4,rfl,u4⟩:=hv4
   have mh:=Pl.Ex.size bu
   have bD:=And.intro (Pl.Ex.trans bE.1 bu) (And.intro (Pl.Cb.ex bE.2.1 bu) (And.intro (Pl.Cb.ex bE.2.2.1 bu) (Pl.Cb.ex bE.2.2.2 bu)))
   refine ⟨_,rfl,bD,?_⟩
   refine Pl.ah rfl rfl rfl rfl rfl (fun u X=>Pl.enters Tryz.func18 (by kernel_rfl) rfl u X) ?_
   refine Calls.mono (lU _ (hg.ext (Pl.Ex.trans hE1 (Pl.Ex.trans hE2 (Pl.Ex.trans aO (Pl.Ex.trans aP (Pl.Ex.trans aM (Pl.Ex.trans aH bu))))))) _ (Dy.BX j (q*2^n)) (-n) (Zn.of u4) (L+J+1) lr (by omega) (by omega) lo2 hi2 (by omega) (by omega) (by omega) (by omega)) ?_
   rintro e w9 ⟨vd,rfl,hvd,dh⟩
   obtain ⟨m1,e1,A5,c5,rfl,u5,d1⟩:=hvd
   have pG:=Pl.Ex.size dh
   have bK:=And.intro (Pl.Ex.trans bD.1 dh) (And.intro (Pl.Cb.ex bD.2.1 dh) (And.intro (Pl.Cb.ex bD.2.2.1 dh) (Pl.Cb.ex bD.2.2.2 dh)))
   refine ⟨_,rfl,bK,?_⟩
   refine Pl.bg (new:=[.bool (decide (m1<0)),.slice A5 (limbs (Int.natAbs m1)).length c5,.int .i64 e1]) (Pl.Cb.ex aD (Pl.Ex.trans aO (Pl.Ex.trans aP (Pl.Ex.trans aM (Pl.Ex.trans aH (Pl.Ex.trans bu dh)))))) (by kernel_rfl) rfl (by simp [Value.oneCell']) rfl rfl rfl rfl rfl rfl (fun Y hY=>⟨Pl.Ex.xs bK.1 hY (by omega),Pl.Cb.xs bK.2.1 hY (by simp;omega),Pl.Cb.xs bK.2.2.1 hY (by simp;omega),Pl.Cb.xs bK.2.2.2 hY (by simp;omega)⟩) ?_
   intro qD eU dG
   have bf:=Pl.Ex.xs (Pl.Ex.trans hE2 (Pl.Ex.trans aO (Pl.Ex.trans aP (Pl.Ex.trans aM (Pl.Ex.trans aH (Pl.Ex.trans bu dh)))))) eU (by omega)
   have mD:=Pl.Xs.size eU
   have gK:=And.intro (Pl.Ex.xs bK.1 eU (by omega)) (And.intro (Pl.Cb.xs bK.2.1 eU (by simp;omega)) (And.intro (Pl.Cb.xs bK.2.2.1 eU (by simp;omega)) (Pl.Cb.xs bK.2.2.2 eU (by simp;omega))))
   have qR:=Pl.Cb.xs (Pl.Cb.ex dX (Pl.Ex.trans aM (Pl.Ex.trans aH (Pl.Ex.trans bu dh)))) eU (by simp;omega)
   have alT:=Pl.Cb.xs (Pl.Cb.ex kNx (Pl.Ex.trans aH (Pl.Ex.trans bu dh))) eU (by simp;omega)
   have alU:=Pl.Cb.xs (Pl.Cb.ex kNy (Pl.Ex.trans aH (Pl.Ex.trans bu dh))) eU (by simp;omega)
   refine Pl.aG gK rfl ?_
   refine Pl.af ?_
   have k5:=Un.xs u5 eU (Pl.Cb.ex aD (Pl.Ex.trans aO (Pl.Ex.trans aP (Pl.Ex.trans aM (Pl.Ex.trans aH (Pl.Ex.trans bu dh)))))) (by simp)
   repeat refine Pl.ay ?_
   exact Pl.nQ rfl rfl rfl dG Tryz.underlying26 rfl (by kernel_rfl) (⟨_,rfl,(Dn.mk k5 d1.can d1.val d1.sz d1.lo d1.hi),(Pl.Ex.trans hE1 bf)⟩)
 · repeat refine Pl.ay ?_
   refine Pl.nG (S:=fun X=>Pl.Ex w5 X) fo (Pl.Ex.trans (Pl.Ex.refl _) (Pl.Ex.drew _)) ?_
   have aM:=Pl.Ex.drew w5
   generalize w5.drew=w6 at *
   have jr:=Pl.Ex.size aM
   intro bS
   refine Pl.aZ [(true,0,0),(true,1,1),(true,2,3),(true,3,7),(true,5,15),(true,6,47),(true,8,111),(true,9,367),(true,10,879)] 1903 7 Pl.az (by kernel_rfl) (by kernel_rfl) (by kernel_rfl) ?_
   refine Pl.bC (.pointer (some ⟨N1,0,none⟩)) bS rfl rfl rfl rfl (fun X=>by kernel_rfl) ?_
   refine Pl.bT (part:=[.bool (decide ((Rat.num q)<0)),.slice Aa (limbs (Int.natAbs (Rat.num q))).length ca]) (fun X hX=>Pl.Cb.ex (Pl.Cb.ex aC (Pl.Ex.trans hE2 (Pl.Ex.trans aO aP))) hX) rfl Tryz.underlying24 rfl (by kernel_rfl) bS rfl rfl rfl rfl rfl ?_
   refine Pl.aG bS rfl ?_
   refine M6 (a:=n) (b:=0) bS rfl rfl rfl rfl rfl rfl ?_
   refine Pl.bC (.pointer (some ⟨N1,2,none⟩)) bS rfl rfl rfl rfl (fun X=>by kernel_rfl) ?_
   refine Pl.iE (v:=.slice Ba (limbs (Rat.den q)).length ba) Tryz.underlying22 rfl (fun X hX=>Pl.Cb.at (j:=2) (Pl.Cb.ex (Pl.Cb.ex aC (Pl.Ex.trans hE2 (Pl.Ex.trans aO aP))) hX) rfl) bS rfl rfl rfl rfl rfl ?_
   refine Pl.aG bS rfl ?_
   refine Pl.mK (v:=.int .i64 (-n)) bS rfl rfl rfl rfl rfl (fun X=>uA (by omega) X) ?_
   refine M6 (a:=(-n)) (b:=0) bS rfl rfl rfl rfl rfl rfl ?_
   refine Pl.af ?_
   refine Pl.cB [4,12,13] 6 (by kernel_rfl) (by kernel_rfl) (by kernel_rfl) (Pl.aj ?_ (Pl.aj ?_ (Pl.aj ?_ Pl.aJ)))
   · refine Pl.ah rfl rfl rfl rfl rfl (fun u X=>Pl.enters Tryz.func65 (by kernel_rfl) rfl u X) ?_
     refine Calls.mono (lH _ _ (Rat.num q) (max n 0) (Zn.of (Un.below ua (Pl.Ex.trans hE1 (Pl.Ex.trans hE2 (Pl.Ex.trans aO (Pl.Ex.trans aP aM)))))) (Nat.le_trans za (by omega)) (by omega) (by omega) (shl (Rat.num q) (max n 0)) rfl) ?_
     rintro e w7 ⟨v1,rfl,hv1,aH⟩
     obtain ⟨A1,c1,rfl,u1⟩:=hv1
     have iU:=Pl.Ex.size aH
     have bE:=Pl.Ex.trans bS aH
     refine ⟨_,rfl,bE,?_⟩
     refine Pl.af ?_
     refine Pl.cB [7,12,13] 5 (by kernel_rfl) (by kernel_rfl) (by kernel_rfl) (Pl.aj ?_ (Pl.aj ?_ (Pl.aj ?_ Pl.aJ)))
     · refine Pl.ah rfl rfl rfl rfl rfl (fun u X=>Pl.enters Tryz.func86 (by kernel_rfl) rfl u X) ?_
       refine Calls.mono (qM _ false _ _ (Un.below ta (Pl.Ex.trans hE1 (Pl.Ex.trans hE2 (Pl.Ex.trans aO (Pl.Ex.trans aP (Pl.Ex.trans aM aH)))))) _ (aI _) ((Rat.den q:Nat):Int) rfl) ?_
       rintro e w8 ⟨v2,rfl,hv2,bu⟩
       obtain ⟨A2,c2,rfl,u2⟩:=hv2
       have mh:=Pl.Ex.size bu
       have bD:=Pl.Ex.trans bE bu
       refine ⟨_,rfl,bD,?_⟩
       refine Pl.af ?_
       refine Pl.cB [11,12,13] 4 (by kernel_rfl) (by kernel_rfl) (by kernel_rfl) (Pl.aj ?_ (Pl.aj ?_ (Pl.aj ?_ Pl.aJ)))
       · refine Pl.ah rfl rfl rfl rfl rfl (fun u X=>Pl.enters Tryz.func65 (by kernel_rfl) rfl u X) ?_
         refine Calls.mono (lH _ _ ((Rat.den q:Nat):Int) (max (-n) 0) (Zn.of u2) (Nat.le_trans (Sn.sz ya) (by omega)) (by omega) (by omega) (shl ((Rat.den q:Nat):Int) (max (-n) 0)) rfl) ?_
         rintro e w9 ⟨v3,rfl,hv3,dh⟩
         obtain ⟨A3,c3,rfl,u3⟩:=hv3
         have pG:=Pl.Ex.size dh
         have bK:=Pl.Ex.trans bD dh
         refine ⟨_,rfl,bK,?_⟩
         refine Pl.af ?_
         refine Pl.cB [12,13] 3 (by kernel_rfl) (by kernel_rfl) (by kernel_rfl) (Pl.aj ?_ (Pl.aj ?_ Pl.aJ))
         · refine Pl.aU (z:=.agg #[.bool false,.slice none 0 0]) (by kernel_rfl) rfl rfl rfl rfl (fun Y hY=>Pl.Ex.trans bK hY) ?_
           intro N5 qD bf qN cK
           have iy:=Pl.Cb.lt cK
           have mD:=Pl.Ex.size bf
           replace cK:Pl.Cb qD N5 24 [.bool false,.slice none 0 0]:=cK
           have gK:=Pl.Ex.trans bK bf
           refine Pl.af ?_
           refine Pl.aZ [(false,13,8191),(false,14,16383),(false,15,32767)] 65535 0 Pl.az (by kernel_rfl) (by kernel_rfl) (by kernel_rfl) ?_
           refine Pl.aU (z:=.agg #[.bool false,.slice none 0 0]) (by kernel_rfl) rfl rfl rfl rfl (fun Y hY=>Pl.Ex.trans gK hY) ?_
           intro N6 uV bI qJ dz
           have iL:=Pl.Cb.lt dz
           have qx:=Pl.Ex.size bI
           replace dz:Pl.Cb uV N6 24 [.bool false,.slice none 0 0]:=dz
           have iT:=Pl.Ex.trans gK bI
           refine Pl.bg (new:=[.bool (decide ((shl (Rat.num q) (max n 0))<0)),.slice A1 (limbs (Int.natAbs (shl (Rat.num q) (max n 0)))).length c1]) (Pl.Cb.ex cK bI) (by kernel_rfl) rfl (by simp [Value.oneCell']) rfl rfl rfl rfl rfl rfl (fun Y hY=>Pl.Ex.xs iT hY (by omega)) ?_
           intro yu fD je
           have bY:=Pl.Ex.xs (Pl.Ex.trans bf bI) fD (by omega)
           have qQ:=Pl.Xs.size fD
           have jl:=Pl.Ex.xs iT fD (by omega)
           have gX:=Pl.Cb.xs dz fD (by simp;omega)
           refine Pl.bg (new:=[.bool (decide ((shl ((Rat.den q:Nat):Int) (max (-n) 0))<0)),.slice A3 (limbs (Int.natAbs (shl ((Rat.den q:Nat):Int) (max (-n) 0)))).length c3]) gX (by kernel_rfl) rfl (by simp [Value.oneCell']) rfl rfl rfl rfl rfl rfl (fun Y hY=>Pl.Ex.xs jl hY (by omega)) ?_
           intro yM gV j5
           have bM:=Pl.Ex.xs bY gV (by omega)
           have rE:=Pl.Xs.size gV
           have lV:=Pl.Ex.xs jl gV (by omega)
           have qh:=Pl.Cb.xs je gV (by simp;omega)
           refine Pl.af ?_
           refine Pl.tK (by kernel_rfl) ?_
           refine Pl.jv [(1,.int .i64 n),(2,.int .i64 ((j:Nat):Int)),(6,.pointer (some ⟨N2,0,none⟩)),(7,.int .i64 0),(8,.pointer (some ⟨N3,0,none⟩)),(9,.pointer (some ⟨N5,0,none⟩)),(10,.pointer (some ⟨N6,0,none⟩))] (Pl.aa rfl (Pl.aa rfl (Pl.aa rfl (Pl.aa rfl (Pl.aa rfl (Pl.aa rfl (Pl.aa rfl Pl.aA))))))) ?_
           exact wz _ _ ⟨N5,N6,A1,c1,A3,c3,(Pl.Ex.trans aM (Pl.Ex.trans aH (Pl.Ex.trans bu (Pl.Ex.trans dh bM)))),qh,j5,(by omega),(Un.below u1 (Pl.Ex.trans bu (Pl.Ex.trans dh bM))),(Un.below u3 bM),rfl⟩
         · refine Pl.aU (z:=.agg #[.bool false,.slice none 0 0]) (by kernel_rfl) rfl rfl rfl rfl (fun Y hY=>Pl.Ex.trans bK hY) ?_
           intro N5 qD bf qN cK
           have iy:=Pl.Cb.lt cK
           have mD:=Pl.Ex.size bf
           replace cK:Pl.Cb qD N5 24 [.bool false,.slice none 0 0]:=cK
           have gK:=Pl.Ex.trans bK bf
           refine Pl.af ?_
           refine Pl.aZ [(false,12,12287),(false,14,16383),(false,15,32767)] 65535 0 Pl.az (by kernel_rfl) (by kernel_rfl) (by kernel_rfl) ?_
           refine Pl.aU (z:=.agg #[.bool false,.slice none 0 0]) (by kernel_rfl) rfl rfl rfl rfl (fun Y hY=>Pl.Ex.trans gK hY) ?_
           intro N6 uV bI qJ dz
           have iL:=Pl.Cb.lt dz
           have qx:=Pl.Ex.size bI
           replace dz:Pl.Cb uV N6 24 [.bool false,.slice none 0 0]:=dz
           have iT:=Pl.Ex.trans gK bI
           refine Pl.bg (new:=[.bool (decide ((shl (Rat.num q) (max n 0))<0)),.slice A1 (limbs (Int.natAbs (shl (Rat.num q) (max n 0)))).length c1]) dz (by kernel_rfl) rfl (by simp [Value.oneCell']) rfl rfl rfl rfl rfl rfl (fun Y hY=>Pl.Ex.xs iT hY (by omega)) ?_
           intro yu fD gX
           have bY:=Pl.Ex.xs bI fD (by omega)
           have qQ:=Pl.Xs.size fD
           have jl:=Pl.Ex.xs iT fD (by omega)
           refine Pl.bg (new:=[.bool (decide ((shl ((Rat.den q:Nat):Int) (max (-n) 0))<0)),.slice A3 (limbs (Int.natAbs (shl ((Rat.den q:Nat):Int) (max (-n) 0)))).length c3]) (Pl.Cb.ex cK bY) (by kernel_rfl) rfl (by simp [Value.oneCell']) rfl rfl rfl rfl rfl rfl (fun Y hY=>Pl.Ex.xs jl hY (by omega)) ?_
           intro yM gV je
           have bM:=Pl.Ex.xs (Pl.Ex.trans bf bY) gV (by omega)
           have rE:=Pl.Xs.size gV
           have lV:=Pl.Ex.xs jl gV (by omega)
           have j5:=Pl.Cb.xs gX gV (by simp;omega)
           refine Pl.af ?_
           refine Pl.tK (by kernel_rfl) ?_
           refine Pl.jv [(1,.int .i64 n),(2,.int .i64 ((j:Nat):Int)),(6,.pointer (some ⟨N2,0,none⟩)),(7,.int .i64 0),(8,.pointer (some ⟨N3,0,none⟩)),(9,.pointer (some ⟨N6,0,none⟩)),(10,.pointer (some ⟨N5,0,none⟩))] (Pl.aa rfl (Pl.aa rfl (Pl.aa rfl (Pl.aa rfl (Pl.aa rfl (Pl.aa rfl (Pl.aa rfl Pl.aA))))))) ?_
           exact wz _ _ ⟨N6,N5,A1,c1,A3,c3,(Pl.Ex.trans aM (Pl.Ex.trans aH (Pl.Ex.trans bu (Pl.Ex.trans dh bM)))),j5,je,(by omega),(Un.below u1 (Pl.Ex.trans bu (Pl.Ex.trans dh bM))),(Un.below u3 bM),rfl⟩
       · refine Pl.aU (z:=.agg #[.bool false,.slice none 0 0]) (by kernel_rfl) rfl rfl rfl rfl (fun Y hY=>Pl.Ex.trans bD hY) ?_
         intro N5 w9 dh qN cK
         have iy:=Pl.Cb.lt cK
         have pG:=Pl.Ex.size dh
         replace cK:Pl.Cb w9 N5 24 [.bool false,.slice none 0 0]:=cK
         have bK:=Pl.Ex.trans bD dh
         refine Pl.af ?_
         refine Pl.cB [11,13] 3 (by kernel_rfl) (by kernel_rfl) (by kernel_rfl) (Pl.aj ?_ (Pl.aj ?_ Pl.aJ))
         · refine Pl.ah rfl rfl rfl rfl rfl (fun u X=>Pl.enters Tryz.func65 (by kernel_rfl) rfl u X) ?_
           refine Calls.mono (lH _ _ ((Rat.den q:Nat):Int) (max (-n) 0) (Zn.of (Un.below u2 dh)) (Nat.le_trans (Sn.sz ya) (by omega)) (by omega) (by omega) (shl ((Rat.den q:Nat):Int) (max (-n) 0)) rfl) ?_
           rintro e qD ⟨v3,rfl,hv3,bf⟩
           obtain ⟨A3,c3,rfl,u3⟩:=hv3
           have mD:=Pl.Ex.size bf
           have gK:=Pl.Ex.trans bK bf
           refine ⟨_,rfl,gK,?_⟩
           refine Pl.af ?_
           refine Pl.aZ [(false,13,8191),(false,14,16383),(false,15,32767)] 65535 0 Pl.az (by kernel_rfl) (by kernel_rfl) (by kernel_rfl) ?_
           refine Pl.aU (z:=.agg #[.bool false,.slice none 0 0]) (by kernel_rfl) rfl rfl rfl rfl (fun Y hY=>Pl.Ex.trans gK hY) ?_
           intro N6 uV bI qJ dz
           have iL:=Pl.Cb.lt dz
           have qx:=Pl.Ex.size bI
           replace dz:Pl.Cb uV N6 24 [.bool false,.slice none 0 0]:=dz
           have iT:=Pl.Ex.trans gK bI
           refine Pl.bg (new:=[.bool (decide ((shl (Rat.num q) (max n 0))<0)),.slice A1 (limbs (Int.natAbs (shl (Rat.num q) (max n 0)))).length c1]) (Pl.Cb.ex cK (Pl.Ex.trans bf bI)) (by kernel_rfl) rfl (by simp [Value.oneCell']) rfl rfl rfl rfl rfl rfl (fun Y hY=>Pl.Ex.xs iT hY (by omega)) ?_
           intro yu fD je
           have bY:=Pl.Ex.xs (Pl.Ex.trans dh (Pl.Ex.trans bf bI)) fD (by omega)
           have qQ:=Pl.Xs.size fD
           have jl:=Pl.Ex.xs iT fD (by omega)
           have gX:=Pl.Cb.xs dz fD (by simp;omega)
           refine Pl.bg (new:=[.bool (decide ((shl ((Rat.den q:Nat):Int) (max (-n) 0))<0)),.slice A3 (limbs (Int.natAbs (shl ((Rat.den q:Nat):Int) (max (-n) 0)))).length c3]) gX (by kernel_rfl) rfl (by simp [Value.oneCell']) rfl rfl rfl rfl rfl rfl (fun Y hY=>Pl.Ex.xs jl hY (by omega)) ?_
           intro yM gV j5
           have bM:=Pl.Ex.xs bY gV (by omega)
           have rE:=Pl.Xs.size gV
           have lV:=Pl.Ex.xs jl gV (by omega)
           have qh:=Pl.Cb.xs je gV (by simp;omega)
           refine Pl.af ?_
           refine Pl.tK (by kernel_rfl) ?_
           refine Pl.jv [(1,.int .i64 n),(2,.int .i64 ((j:Nat):Int)),(6,.pointer (some ⟨N2,0,none⟩)),(7,.int .i64 0),(8,.pointer (some ⟨N3,0,none⟩)),(9,.pointer (some ⟨N5,0,none⟩)),(10,.pointer (some ⟨N6,0,none⟩))] (Pl.aa rfl (Pl.aa rfl (Pl.aa rfl (Pl.aa rfl (Pl.aa rfl (Pl.aa rfl (Pl.aa rfl Pl.aA))))))) ?_
           have k7:=Un.xs (Un.below u3 bI) fD (Pl.Cb.ex cK (Pl.Ex.trans bf bI)) (by simp)
           have k8:=Un.xs k7 gV gX (by simp)
           exact wz _ _ ⟨N5,N6,A1,c1,A3,c3,(Pl.Ex.trans aM (Pl.Ex.trans aH (Pl.Ex.trans bu bM))),qh,j5,(by omega),(Un.below u1 (Pl.Ex.trans bu bM)),k8,rfl⟩
         · refine Pl.aU (z:=.agg #[.bool false,.slice none 0 0]) (by kernel_rfl) rfl rfl rfl rfl (fun Y hY=>Pl.Ex.trans bK hY) ?_
           intro N6 qD bf qJ dz
           have iL:=Pl.Cb.lt dz
           have mD:=Pl.Ex.size bf
           replace dz:Pl.Cb qD N6 24 [.bool false,.slice none 0 0]:=dz
           have gK:=Pl.Ex.trans bK bf
           refine Pl.af ?_
           refine Pl.aZ [(false,11,14335),(false,14,16383),(false,15,32767)] 65535 0 Pl.az (by kernel_rfl) (by kernel_rfl) (by kernel_rfl) ?_
           refine Pl.ah rfl rfl rfl rfl rfl (fun u X=>Pl.enters Tryz.func65 (by kernel_rfl) rfl u X) ?_
           refine Calls.mono (lH _ _ ((Rat.den q:Nat):Int) (max (-n) 0) (Zn.of (Un.below u2 (Pl.Ex.trans dh bf))) (Nat.le_trans (Sn.sz ya) (by omega)) (by omega) (by omega) (shl ((Rat.den q:Nat):Int) (max (-n) 0)) rfl) ?_
           rintro e uV ⟨v3,rfl,hv3,bI⟩
           obtain ⟨A3,c3,rfl,u3⟩:=hv3
           have qx:=Pl.Ex.size bI
           have iT:=Pl.Ex.trans gK bI
           refine ⟨_,rfl,iT,?_⟩
           refine Pl.bg (new:=[.bool (decide ((shl (Rat.num q) (max n 0))<0)),.slice A1 (limbs (Int.natAbs (shl (Rat.num q) (max n 0)))).length c1]) (Pl.Cb.ex cK (Pl.Ex.trans bf bI)) (by kernel_rfl) rfl (by simp [Value.oneCell']) rfl rfl rfl rfl rfl rfl (fun Y hY=>Pl.Ex.xs iT hY (by omega)) ?_
           intro yu fD je
           have bY:=Pl.Ex.xs (Pl.Ex.trans dh (Pl.Ex.trans bf bI)) fD (by omega)
           have qQ:=Pl.Xs.size fD
           have jl:=Pl.Ex.xs iT fD (by omega)
           have gX:=Pl.Cb.xs (Pl.Cb.ex dz bI) fD (by simp;omega)
           refine Pl.bg (new:=[.bool (decide ((shl ((Rat.den q:Nat):Int) (max (-n) 0))<0)),.slice A3 (limbs (Int.natAbs (shl ((Rat.den q:Nat):Int) (max (-n) 0)))).length c3]) gX (by kernel_rfl) rfl (by simp [Value.oneCell']) rfl rfl rfl rfl rfl rfl (fun Y hY=>Pl.Ex.xs jl hY (by omega)) ?_
           intro yM gV j5
           have bM:=Pl.Ex.xs bY gV (by omega)
           have rE:=Pl.Xs.size gV
           have lV:=Pl.Ex.xs jl gV (by omega)
           have qh:=Pl.Cb.xs je gV (by simp;omega)
           refine Pl.af ?_
           refine Pl.tK (by kernel_rfl) ?_
           refine Pl.jv [(1,.int .i64 n),(2,.int .i64 ((j:Nat):Int)),(6,.pointer (some ⟨N2,0,none⟩)),(7,.int .i64 0),(8,.pointer (some ⟨N3,0,none⟩)),(9,.pointer (some ⟨N5,0,none⟩)),(10,.pointer (some ⟨N6,0,none⟩))] (Pl.aa rfl (Pl.aa rfl (Pl.aa rfl (Pl.aa rfl (Pl.aa rfl (Pl.aa rfl (Pl.aa rfl Pl.aA))))))) ?_
           have k7:=Un.xs u3 fD (Pl.Cb.ex cK (Pl.Ex.trans bf bI)) (by simp)
           have k8:=Un.xs k7 gV gX (by simp)
           exact wz _ _ ⟨N5,N6,A1,c1,A3,c3,(Pl.Ex.trans aM (Pl.Ex.trans aH (Pl.Ex.trans bu bM))),qh,j5,(by omega),(Un.below u1 (Pl.Ex.trans bu bM)),k8,rfl⟩
       · refine Pl.aU (z:=.agg #[.bool false,.slice none 0 0]) (by kernel_rfl) rfl rfl rfl rfl (fun Y hY=>Pl.Ex.trans bD hY) ?_
         intro N5 w9 dh qN cK
         have iy:=Pl.Cb.lt cK
         have pG:=Pl.Ex.size dh
         replace cK:Pl.Cb w9 N5 24 [.bool false,.slice none 0 0]:=cK
         have bK:=Pl.Ex.trans bD dh
         refine Pl.af ?_
         refine Pl.cB [11,12] 3 (by kernel_rfl) (by kernel_rfl) (by kernel_rfl) (Pl.aj ?_ (Pl.aj ?_ Pl.aJ))
         · refine Pl.ah rfl rfl rfl rfl rfl (fun u X=>Pl.enters Tryz.func65 (by kernel_rfl) rfl u X) ?_
           refine Calls.mono (lH _ _ ((Rat.den q:Nat):Int) (max (-n) 0) (Zn.of (Un.below u2 dh)) (Nat.le_trans (Sn.sz ya) (by omega)) (by omega) (by omega) (shl ((Rat.den q:Nat):Int) (max (-n) 0)) rfl) ?_
           rintro e qD ⟨v3,rfl,hv3,bf⟩
           obtain ⟨A3,c3,rfl,u3⟩:=hv3
           have mD:=Pl.Ex.size bf
           have gK:=Pl.Ex.trans bK bf
           refine ⟨_,rfl,gK,?_⟩
           refine Pl.af ?_
           refine Pl.aZ [(false,12,12287),(false,14,16383),(false,15,32767)] 65535 0 Pl.az (by kernel_rfl) (by kernel_rfl) (by kernel_rfl) ?_
           refine Pl.aU (z:=.agg #[.bool false,.slice none 0 0]) (by kernel_rfl) rfl rfl rfl rfl (fun Y hY=>Pl.Ex.trans gK hY) ?_
           intro N6 uV bI qJ dz
           have iL:=Pl.Cb.lt dz
           have qx:=Pl.Ex.size bI
           replace dz:Pl.Cb uV N6 24 [.bool false,.slice none 0 0]:=dz
           have iT:=Pl.Ex.trans gK bI
           refine Pl.bg (new:=[.bool (decide ((shl (Rat.num q) (max n 0))<0)),.slice A1 (limbs (Int.natAbs (shl (Rat.num q) (max n 0)))).length c1]) dz (by kernel_rfl) rfl (by simp [Value.oneCell']) rfl rfl rfl rfl rfl rfl (fun Y hY=>Pl.Ex.xs iT hY (by omega)) ?_
           intro yu fD gX
           have bY:=Pl.Ex.xs bI fD (by omega)
           have qQ:=Pl.Xs.size fD
           have jl:=Pl.Ex.xs iT fD (by omega)
           refine Pl.bg (new:=[.bool (decide ((shl ((Rat.den q:Nat):Int) (max (-n) 0))<0)),.slice A3 (limbs (Int.natAbs (shl ((Rat.den q:Nat):Int) (max (-n) 0)))).length c3]) (Pl.Cb.ex cK (Pl.Ex.trans bf bY)) (by kernel_rfl) rfl (by simp [Value.oneCell']) rfl rfl rfl rfl rfl rfl (fun Y hY=>Pl.Ex.xs jl hY (by omega)) ?_
           intro yM gV je
           have bM:=Pl.Ex.xs (Pl.Ex.trans dh (Pl.Ex.trans bf bY)) gV (by omega)
           have rE:=Pl.Xs.size gV
           have lV:=Pl.Ex.xs jl gV (by omega)
           have j5:=Pl.Cb.xs gX gV (by simp;omega)
           refine Pl.af ?_
           refine Pl.tK (by kernel_rfl) ?_
           refine Pl.jv [(1,.int .i64 n),(2,.int .i64 ((j:Nat):Int)),(6,.pointer (some ⟨N2,0,none⟩)),(7,.int .i64 0),(8,.pointer (some ⟨N3,0,none⟩)),(9,.pointer (some ⟨N6,0,none⟩)),(10,.pointer (some ⟨N5,0,none⟩))] (Pl.aa rfl (Pl.aa rfl (Pl.aa rfl (Pl.aa rfl (Pl.aa rfl (Pl.aa rfl (Pl.aa rfl Pl.aA))))))) ?_
           have k7:=Un.xs (Un.below u3 bY) gV (Pl.Cb.ex cK (Pl.Ex.trans bf bY)) (by simp)
           exact wz _ _ ⟨N6,N5,A1,c1,A3,c3,(Pl.Ex.trans aM (Pl.Ex.trans aH (Pl.Ex.trans bu bM))),j5,je,(by omega),(Un.below u1 (Pl.Ex.trans bu bM)),k7,rfl⟩
         · refine Pl.aU (z:=.agg #[.bool false,.slice none 0 0]) (by kernel_rfl) rfl rfl rfl rfl (fun Y hY=>Pl.Ex.trans bK hY) ?_
           intro N6 qD bf qJ dz
           have iL:=Pl.Cb.lt dz
           have mD:=Pl.Ex.size bf
           replace dz:Pl.Cb qD N6 24 [.bool false,.slice none 0 0]:=dz
           have gK:=Pl.Ex.trans bK bf
           refine Pl.af ?_
           refine Pl.aZ [(false,11,14335),(false,14,16383),(false,15,32767)] 65535 0 Pl.az (by kernel_rfl) (by kernel_rfl) (by kernel_rfl) ?_
           refine Pl.ah rfl rfl rfl rfl rfl (fun u X=>Pl.enters Tryz.func65 (by kernel_rfl) rfl u X) ?_
           refine Calls.mono (lH _ _ ((Rat.den q:Nat):Int) (max (-n) 0) (Zn.of (Un.below u2 (Pl.Ex.trans dh bf))) (Nat.le_trans (Sn.sz ya) (by omega)) (by omega) (by omega) (shl ((Rat.den q:Nat):Int) (max (-n) 0)) rfl) ?_
           rintro e uV ⟨v3,rfl,hv3,bI⟩
           obtain ⟨A3,c3,rfl,u3⟩:=hv3
           have qx:=Pl.Ex.size bI
           have iT:=Pl.Ex.trans gK bI
           refine ⟨_,rfl,iT,?_⟩
           refine Pl.bg (new:=[.bool (decide ((shl (Rat.num q) (max n 0))<0)),.slice A1 (limbs (Int.natAbs (shl (Rat.num q) (max n 0)))).length c1]) (Pl.Cb.ex dz bI) (by kernel_rfl) rfl (by simp [Value.oneCell']) rfl rfl rfl rfl rfl rfl (fun Y hY=>Pl.Ex.xs iT hY (by omega)) ?_
           intro yu fD gX
           have bY:=Pl.Ex.xs (Pl.Ex.trans bf bI) fD (by omega)
           have qQ:=Pl.Xs.size fD
           have jl:=Pl.Ex.xs iT fD (by omega)
           refine Pl.bg (new:=[.bool (decide ((shl ((Rat.den q:Nat):Int) (max (-n) 0))<0)),.slice A3 (limbs (Int.natAbs (shl ((Rat.den q:Nat):Int) (max (-n) 0)))).length c3]) (Pl.Cb.ex cK bY) (by kernel_rfl) rfl (by simp [Value.oneCell']) rfl rfl rfl rfl rfl rfl (fun Y hY=>Pl.Ex.xs jl hY (by omega)) ?_
           intro yM gV je
           have bM:=Pl.Ex.xs (Pl.Ex.trans dh bY) gV (by omega)
           have rE:=Pl.Xs.size gV
           have lV:=Pl.Ex.xs jl gV (by omega)
           have j5:=Pl.Cb.xs gX gV (by simp;omega)
           refine Pl.af ?_
           refine Pl.tK (by kernel_rfl) ?_
           refine Pl.jv [(1,.int .i64 n),(2,.int .i64 ((j:Nat):Int)),(6,.pointer (some ⟨N2,0,none⟩)),(7,.int .i64 0),(8,.pointer (some ⟨N3,0,none⟩)),(9,.pointer (some ⟨N6,0,none⟩)),(10,.pointer (some ⟨N5,0,none⟩))] (Pl.aa rfl (Pl.aa rfl (Pl.aa rfl (Pl.aa rfl (Pl.aa rfl (Pl.aa rfl (Pl.aa rfl Pl.aA))))))) ?_
           have k7:=Un.xs u3 fD (Pl.Cb.ex dz bI) (by simp)
           have k8:=Un.xs k7 gV (Pl.Cb.ex cK bY) (by simp)
           exact wz _ _ ⟨N6,N5,A1,c1,A3,c3,(Pl.Ex.trans aM (Pl.Ex.trans aH (Pl.Ex.trans bu bM))),j5,je,(by omega),(Un.below u1 (Pl.Ex.trans bu bM)),k8,rfl⟩
     · refine Pl.aU (z:=.agg #[.bool false,.slice none 0 0]) (by kernel_rfl) rfl rfl rfl rfl (fun Y hY=>Pl.Ex.trans bE hY) ?_
       intro N5 w8 bu qN cK
       have iy:=Pl.Cb.lt cK
       have mh:=Pl.Ex.size bu
       replace cK:Pl.Cb w8 N5 24 [.bool false,.slice none 0 0]:=cK
       have bD:=Pl.Ex.trans bE bu
       refine Pl.af ?_
       refine Pl.cB [7,13] 4 (by kernel_rfl) (by kernel_rfl) (by kernel_rfl) (Pl.aj ?_ (Pl.aj ?_ Pl.aJ))
       · refine Pl.ah rfl rfl rfl rfl rfl (fun u X=>Pl.enters Tryz.func86 (by kernel_rfl) rfl u X) ?_
         refine Calls.mono (qM _ false _ _ (Un.below ta (Pl.Ex.trans hE1 (Pl.Ex.trans hE2 (Pl.Ex.trans aO (Pl.Ex.trans aP (Pl.Ex.trans aM (Pl.Ex.trans aH bu))))))) _ (aI _) ((Rat.den q:Nat):Int) rfl) ?_
         rintro e w9 ⟨v2,rfl,hv2,dh⟩
         obtain ⟨A2,c2,rfl,u2⟩:=hv2
         have pG:=Pl.Ex.size dh
         have bK:=Pl.Ex.trans bD dh
         refine ⟨_,rfl,bK,?_⟩
         refine Pl.af ?_
         refine Pl.cB [11,13] 3 (by kernel_rfl) (by kernel_rfl) (by kernel_rfl) (Pl.aj ?_ (Pl.aj ?_ Pl.aJ))
         · refine Pl.ah rfl rfl rfl rfl rfl (fun u X=>Pl.enters Tryz.func65 (by kernel_rfl) rfl u X) ?_
           refine Calls.mono (lH _ _ ((Rat.den q:Nat):Int) (max (-n) 0) (Zn.of u2) (Nat.le_trans (Sn.sz ya) (by omega)) (by omega) (by omega) (shl ((Rat.den q:Nat):Int) (max (-n) 0)) rfl) ?_
           rintro e qD ⟨v3,rfl,hv3,bf⟩
           obtain ⟨A3,c3,rfl,u3⟩:=hv3
           have mD:=Pl.Ex.size bf
           have gK:=Pl.Ex.trans bK bf
           refine ⟨_,rfl,gK,?_⟩
           refine Pl.af ?_
           refine Pl.aZ [(false,13,8191),(false,14,16383),(false,15,32767)] 65535 0 Pl.az (by kernel_rfl) (by kernel_rfl) (by kernel_rfl) ?_
           refine Pl.aU (z:=.agg #[.bool false,.slice none 0 0]) (by kernel_rfl) rfl rfl rfl rfl (fun Y hY=>Pl.Ex.trans gK hY) ?_
           intro N6 uV bI qJ dz
           have iL:=Pl.Cb.lt dz
           have qx:=Pl.Ex.size bI
           replace dz:Pl.Cb uV N6 24 [.bool false,.slice none 0 0]:=dz
           have iT:=Pl.Ex.trans gK bI
           refine Pl.bg (new:=[.bool (decide ((shl (Rat.num q) (max n 0))<0)),.slice A1 (limbs (Int.natAbs (shl (Rat.num q) (max n 0)))).length c1]) (Pl.Cb.ex cK (Pl.Ex.trans dh (Pl.Ex.trans bf bI))) (by kernel_rfl) rfl (by simp [Value.oneCell']) rfl rfl rfl rfl rfl rfl (fun Y hY=>Pl.Ex.xs iT hY (by omega)) ?_
           intro yu fD je
           have bY:=Pl.Ex.xs (Pl.Ex.trans bu (Pl.Ex.trans dh (Pl.Ex.trans bf bI))) fD (by omega)
           have qQ:=Pl.Xs.size fD
           have jl:=Pl.Ex.xs iT fD (by omega)
           have gX:=Pl.Cb.xs dz fD (by simp;omega)
           refine Pl.bg (new:=[.bool (decide ((shl ((Rat.den q:Nat):Int) (max (-n) 0))<0)),.slice A3 (limbs (Int.natAbs (shl ((Rat.den q:Nat):Int) (max (-n) 0)))).length c3]) gX (by kernel_rfl) rfl (by simp [Value.oneCell']) rfl rfl rfl rfl rfl rfl (fun Y hY=>Pl.Ex.xs jl hY (by omega)) ?_
           intro yM gV j5
           have bM:=Pl.Ex.xs bY gV (by omega)
           have rE:=Pl.Xs.size gV
           have lV:=Pl.Ex.xs jl gV (by omega)
           have qh:=Pl.Cb.xs je gV (by simp;omega)
           refine Pl.af ?_
           refine Pl.tK (by kernel_rfl) ?_
           refine Pl.jv [(1,.int .i64 n),(2,.int .i64 ((j:Nat):Int)),(6,.pointer (some ⟨N2,0,none⟩)),(7,.int .i64 0),(8,.pointer (some ⟨N3,0,none⟩)),(9,.pointer (some ⟨N5,0,none⟩)),(10,.pointer (some ⟨N6,0,none⟩))] (Pl.aa rfl (Pl.aa rfl (Pl.aa rfl (Pl.aa rfl (Pl.aa rfl (Pl.aa rfl (Pl.aa rfl Pl.aA))))))) ?_
           have k7:=Un.xs (Un.below u3 bI) fD (Pl.Cb.ex cK (Pl.Ex.trans dh (Pl.Ex.trans bf bI))) (by simp)
           have k8:=Un.xs k7 gV gX (by simp)
           exact wz _ _ ⟨N5,N6,A1,c1,A3,c3,(Pl.Ex.trans aM (Pl.Ex.trans aH bM)),qh,j5,(by omega),(Un.below u1 bM),k8,rfl⟩
         · refine Pl.aU (z:=.agg #[.bool false,.slice none 0 0]) (by kernel_rfl) rfl rfl rfl rfl (fun Y hY=>Pl.Ex.trans bK hY) ?_
           intro N6 qD bf qJ dz
           have iL:=Pl.Cb.lt dz
           have mD:=Pl.Ex.size bf
           replace dz:Pl.Cb qD N6 24 [.bool false,.slice none 0 0]:=dz
           have gK:=Pl.Ex.trans bK bf
           refine Pl.af ?_
           refine Pl.aZ [(false,11,14335),(false,14,16383),(false,15,32767)] 65535 0 Pl.az (by kernel_rfl) (by kernel_rfl) (by kernel_rfl) ?_
           refine Pl.ah rfl rfl rfl rfl rfl (fun u X=>Pl.enters Tryz.func65 (by kernel_rfl) rfl u X) ?_
           refine Calls.mono (lH _ _ ((Rat.den q:Nat):Int) (max (-n) 0) (Zn.of (Un.below u2 bf)) (Nat.le_trans (Sn.sz ya) (by omega)) (by omega) (by omega) (shl ((Rat.den q:Nat):Int) (max (-n) 0)) rfl) ?_
           rintro e uV ⟨v3,rfl,hv3,bI⟩
           obtain ⟨A3,c3,rfl,u3⟩:=hv3
           have qx:=Pl.Ex.size bI
           have iT:=Pl.Ex.trans gK bI
           refine ⟨_,rfl,iT,?_⟩
           refine Pl.bg (new:=[.bool (decide ((shl (Rat.num q) (max n 0))<0)),.slice A1 (limbs (Int.natAbs (shl (Rat.num q) (max n 0)))).length c1]) (Pl.Cb.ex cK (Pl.Ex.trans dh (Pl.Ex.trans bf bI))) (by kernel_rfl) rfl (by simp [Value.oneCell']) rfl rfl rfl rfl rfl rfl (fun Y hY=>Pl.Ex.xs iT hY (by omega)) ?_
           intro yu fD je
           have bY:=Pl.Ex.xs (Pl.Ex.trans bu (Pl.Ex.trans dh (Pl.Ex.trans bf bI))) fD (by omega)
           have qQ:=Pl.Xs.size fD
           have jl:=Pl.Ex.xs iT fD (by omega)
           have gX:=Pl.Cb.xs (Pl.Cb.ex dz bI) fD (by simp;omega)
           refine Pl.bg (new:=[.bool (decide ((shl ((Rat.den q:Nat):Int) (max (-n) 0))<0)),.slice A3 (limbs (Int.natAbs (shl ((Rat.den q:Nat):Int) (max (-n) 0)))).length c3]) gX (by kernel_rfl) rfl (by simp [Value.oneCell']) rfl rfl rfl rfl rfl rfl (fun Y hY=>Pl.Ex.xs jl hY (by omega)) ?_
           intro yM gV j5
           have bM:=Pl.Ex.xs bY gV (by omega)
           have rE:=Pl.Xs.size gV
           have lV:=Pl.Ex.xs jl gV (by omega)
           have qh:=Pl.Cb.xs je gV (by simp;omega)
           refine Pl.af ?_
           refine Pl.tK (by kernel_rfl) ?_
           refine Pl.jv [(1,.int .i64 n),(2,.int .i64 ((j:Nat):Int)),(6,.pointer (some ⟨N2,0,none⟩)),(7,.int .i64 0),(8,.pointer (some ⟨N3,0,none⟩)),(9,.pointer (some ⟨N5,0,none⟩)),(10,.pointer (some ⟨N6,0,none⟩))] (Pl.aa rfl (Pl.aa rfl (Pl.aa rfl (Pl.aa rfl (Pl.aa rfl (Pl.aa rfl (Pl.aa rfl Pl.aA))))))) ?_
           have k7:=Un.xs u3 fD (Pl.Cb.ex cK (Pl.Ex.trans dh (Pl.Ex.trans bf bI))) (by simp)
           have k8:=Un.xs k7 gV gX (by simp)
           exact wz _ _ ⟨N5,N6,A1,c1,A3,c3,(Pl.Ex.trans aM (Pl.Ex.trans aH bM)),qh,j5,(by omega),(Un.below u1 bM),k8,rfl⟩
       · refine Pl.aU (z:=.agg #[.bool false,.slice none 0 0]) (by kernel_rfl) rfl rfl rfl rfl (fun Y hY=>Pl.Ex.trans bD hY) ?_
         intro N6 w9 dh qJ dz
         have iL:=Pl.Cb.lt dz
         have pG:=Pl.Ex.size dh
         replace dz:Pl.Cb w9 N6 24 [.bool false,.slice none 0 0]:=dz
         have bK:=Pl.Ex.trans bD dh
         refine Pl.af ?_
         refine Pl.aZ [(false,7,14207),(false,11,14335),(false,14,16383),(false,15,32767)] 65535 0 Pl.az (by kernel_rfl) (by kernel_rfl) (by kernel_rfl) ?_
         refine Pl.ah rfl rfl rfl rfl rfl (fun u X=>Pl.enters Tryz.func86 (by kernel_rfl) rfl u X) ?_
         refine Calls.mono (qM _ false _ _ (Un.below ta (Pl.Ex.trans hE1 (Pl.Ex.trans hE2 (Pl.Ex.trans aO (Pl.Ex.trans aP (Pl.Ex.trans aM (Pl.Ex.trans aH (Pl.Ex.trans bu dh)))))))) _ (aI _) ((Rat.den q:Nat):Int) rfl) ?_
         rintro e qD ⟨v2,rfl,hv2,bf⟩
         obtain ⟨A2,c2,rfl,u2⟩:=hv2
         have mD:=Pl.Ex.size bf
         have gK:=Pl.Ex.trans bK bf
         refine ⟨_,rfl,gK,?_⟩
         refine Pl.ah rfl rfl rfl rfl rfl (fun u X=>Pl.enters Tryz.func65 (by kernel_rfl) rfl u X) ?_
         refine Calls.mono (lH _ _ ((Rat.den q:Nat):Int) (max (-n) 0) (Zn.of u2) (Nat.le_trans (Sn.sz ya) (by omega)) (by omega) (by omega) (shl ((Rat.den q:Nat):Int) (max (-n) 0)) rfl) ?_
         rintro e uV ⟨v3,rfl,hv3,bI⟩
         obtain ⟨A3,c3,rfl,u3⟩:=hv3
         have qx:=Pl.Ex.size bI
         have iT:=Pl.Ex.trans gK bI
         refine ⟨_,rfl,iT,?_⟩
         refine Pl.bg (new:=[.bool (decide ((shl (Rat.num q) (max n 0))<0)),.slice A1 (limbs (Int.natAbs (shl (Rat.num q) (max n 0)))).length c1]) (Pl.Cb.ex cK (Pl.Ex.trans dh (Pl.Ex.trans bf bI))) (by kernel_rfl) rfl (by simp [Value.oneCell']) rfl rfl rfl rfl rfl rfl (fun Y hY=>Pl.Ex.xs iT hY (by omega)) ?_
         intro yu fD je
         have bY:=Pl.Ex.xs (Pl.Ex.trans bu (Pl.Ex.trans dh (Pl.Ex.trans bf bI))) fD (by omega)
         have qQ:=Pl.Xs.size fD
         have jl:=Pl.Ex.xs iT fD (by omega)
         have gX:=Pl.Cb.xs (Pl.Cb.ex dz (Pl.Ex.trans bf bI)) fD (by simp;omega)
         refine Pl.bg (new:=[.bool (decide ((shl ((Rat.den q:Nat):Int) (max (-n) 0))<0)),.slice A3 (limbs (Int.natAbs (shl ((Rat.den q:Nat):Int) (max (-n) 0)))).length c3]) gX (by kernel_rfl) rfl (by simp [Value.oneCell']) rfl rfl rfl rfl rfl rfl (fun Y hY=>Pl.Ex.xs jl hY (by omega)) ?_
         intro yM gV j5
         have bM:=Pl.Ex.xs bY gV (by omega)
         have rE:=Pl.Xs.size gV
         have lV:=Pl.Ex.xs jl gV (by omega)
         have qh:=Pl.Cb.xs je gV (by simp;omega)
         refine Pl.af ?_
         refine Pl.tK (by kernel_rfl) ?_
         refine Pl.jv [(1,.int .i64 n),(2,.int .i64 ((j:Nat):Int)),(6,.pointer (some ⟨N2,0,none⟩)),(7,.int .i64 0),(8,.pointer (some ⟨N3,0,none⟩)),(9,.pointer (some ⟨N5,0,none⟩)),(10,.pointer (some ⟨N6,0,none⟩))] (Pl.aa rfl (Pl.aa rfl (Pl.aa rfl (Pl.aa rfl (Pl.aa rfl (Pl.aa rfl (Pl.aa rfl Pl.aA))))))) ?_
         have k7:=Un.xs u3 fD (Pl.Cb.ex cK (Pl.Ex.trans dh (Pl.Ex.trans bf bI))) (by simp)
         have k8:=Un.xs k7 gV gX (by simp)
         exact wz _ _ ⟨N5,N6,A1,c1,A3,c3,(Pl.Ex.trans aM (Pl.Ex.trans aH bM)),qh,j5,(by omega),(Un.below u1 bM),k8,rfl⟩
     · refine Pl.aU (z:=.agg #[.bool false,.slice none 0 0]) (by kernel_rfl) rfl rfl rfl rfl (fun Y hY=>Pl.Ex.trans bE hY) ?_
       intro N5 w8 bu qN cK
       have iy:=Pl.Cb.lt cK
       have mh:=Pl.Ex.size bu
       replace cK:Pl.Cb w8 N5 24 [.bool false,.slice none 0 0]:=cK
       have bD:=Pl.Ex.trans bE bu
       refine Pl.af ?_
       refine Pl.cB [7,12] 4 (by kernel_rfl) (by kernel_rfl) (by kernel_rfl) (Pl.aj ?_ (Pl.aj ?_ Pl.aJ))
       · refine Pl.ah rfl rfl rfl rfl rfl (fun u X=>Pl.enters Tryz.func86 (by kernel_rfl) rfl u X) ?_
         refine Calls.mono (qM _ false _ _ (Un.below ta (Pl.Ex.trans hE1 (Pl.Ex.trans hE2 (Pl.Ex.trans aO (Pl.Ex.trans aP (Pl.Ex.trans aM (Pl.Ex.trans aH bu))))))) _ (aI _) ((Rat.den q:Nat):Int) rfl) ?_
         rintro e w9 ⟨v2,rfl,hv2,dh⟩
         obtain ⟨A2,c2,rfl,u2⟩:=hv2
         have pG:=Pl.Ex.size dh
         have bK:=Pl.Ex.trans bD dh
         refine ⟨_,rfl,bK,?_⟩
         refine Pl.af ?_
         refine Pl.cB [11,12] 3 (by kernel_rfl) (by kernel_rfl) (by kernel_rfl) (Pl.aj ?_ (Pl.aj ?_ Pl.aJ))
         · refine Pl.ah rfl rfl rfl rfl rfl (fun u X=>Pl.enters Tryz.func65 (by kernel_rfl) rfl u X) ?_
           refine Calls.mono (lH _ _ ((Rat.den q:Nat):Int) (max (-n) 0) (Zn.of u2) (Nat.le_trans (Sn.sz ya) (by omega)) (by omega) (by omega) (shl ((Rat.den q:Nat):Int) (max (-n) 0)) rfl) ?_
           rintro e qD ⟨v3,rfl,hv3,bf⟩
           obtain ⟨A3,c3,rfl,u3⟩:=hv3
           have mD:=Pl.Ex.size bf
           have gK:=Pl.Ex.trans bK bf
           refine ⟨_,rfl,gK,?_⟩
           refine Pl.af ?_
           refine Pl.aZ [(false,12,12287),(false,14,16383),(false,15,32767)] 65535 0 Pl.az (by kernel_rfl) (by kernel_rfl) (by kernel_rfl) ?_
           refine Pl.aU (z:=.agg #[.bool false,.slice none 0 0]) (by kernel_rfl) rfl rfl rfl rfl (fun Y hY=>Pl.Ex.trans gK hY) ?_
           intro N6 uV bI qJ dz
           have iL:=Pl.Cb.lt dz
           have qx:=Pl.Ex.size bI
           replace dz:Pl.Cb uV N6 24 [.bool false,.slice none 0 0]:=dz
           have iT:=Pl.Ex.trans gK bI
           refine Pl.bg (new:=[.bool (decide ((shl (Rat.num q) (max n 0))<0)),.slice A1 (limbs (Int.natAbs (shl (Rat.num q) (max n 0)))).length c1]) dz (by kernel_rfl) rfl (by simp [Value.oneCell']) rfl rfl rfl rfl rfl rfl (fun Y hY=>Pl.Ex.xs iT hY (by omega)) ?_
           intro yu fD gX
           have bY:=Pl.Ex.xs bI fD (by omega)
           have qQ:=Pl.Xs.size fD
           have jl:=Pl.Ex.xs iT fD (by omega)
           refine Pl.bg (new:=[.bool (decide ((shl ((Rat.den q:Nat):Int) (max (-n) 0))<0)),.slice A3 (limbs (Int.natAbs (shl ((Rat.den q:Nat):Int) (max (-n) 0)))).length c3]) (Pl.Cb.ex cK (Pl.Ex.trans dh (Pl.Ex.trans bf bY))) (by kernel_rfl) rfl (by simp [Value.oneCell']) rfl rfl rfl rfl rfl rfl (fun Y hY=>Pl.Ex.xs jl hY (by omega)) ?_
           intro yM gV je
           have bM:=Pl.Ex.xs (Pl.Ex.trans bu (Pl.Ex.trans dh (Pl.Ex.trans bf bY))) gV (by omega)
           have rE:=Pl.Xs.size gV
           have lV:=Pl.Ex.xs jl gV (by omega)
           have j5:=Pl.Cb.xs gX gV (by simp;omega)
           refine Pl.af ?_
           refine Pl.tK (by kernel_rfl) ?_
           refine Pl.jv [(1,.int .i64 n),(2,.int .i64 ((j:Nat):Int)),(6,.pointer (some ⟨N2,0,none⟩)),(7,.int .i64 0),(8,.pointer (some ⟨N3,0,none⟩)),(9,.pointer (some ⟨N6,0,none⟩)),(10,.pointer (some ⟨N5,0,none⟩))] (Pl.aa rfl (Pl.aa rfl (Pl.aa rfl (Pl.aa rfl (Pl.aa rfl (Pl.aa rfl (Pl.aa rfl Pl.aA))))))) ?_
           have k7:=Un.xs (Un.below u3 bY) gV (Pl.Cb.ex cK (Pl.Ex.trans dh (Pl.Ex.trans bf bY))) (by simp)
           exact wz _ _ ⟨N6,N5,A1,c1,A3,c3,(Pl.Ex.trans aM (Pl.Ex.trans aH bM)),j5,je,(by omega),(Un.below u1 bM),k7,rfl⟩
         · refine Pl.aU (z:=.agg #[.bool false,.slice none 0 0]) (by kernel_rfl) rfl rfl rfl rfl (fun Y hY=>Pl.Ex.trans bK hY) ?_
           intro N6 qD bf qJ dz
           have iL:=Pl.Cb.lt dz
           have mD:=Pl.Ex.size bf
           replace dz:Pl.Cb qD N6 24 [.bool false,.slice none 0 0]:=dz
           have gK:=Pl.Ex.trans bK bf
           refine Pl.af ?_
           refine Pl.aZ [(false,11,14335),(false,14,16383),(false,15,32767)] 65535 0 Pl.az (by kernel_rfl) (by kernel_rfl) (by kernel_rfl) ?_
           refine Pl.ah rfl rfl rfl rfl rfl (fun u X=>Pl.enters Tryz.func65 (by kernel_rfl) rfl u X) ?_
           refine Calls.mono (lH _ _ ((Rat.den q:Nat):Int) (max (-n) 0) (Zn.of (Un.below u2 bf)) (Nat.le_trans (Sn.sz ya) (by omega)) (by omega) (by omega) (shl ((Rat.den q:Nat):Int) (max (-n) 0)) rfl) ?_
           rintro e uV ⟨v3,rfl,hv3,bI⟩
           obtain ⟨A3,c3,rfl,u3⟩:=hv3
           have qx:=Pl.Ex.size bI
           have iT:=Pl.Ex.trans gK bI
           refine ⟨_,rfl,iT,?_⟩
           refine Pl.bg (new:=[.bool (decide ((shl (Rat.num q) (max n 0))<0)),.slice A1 (limbs (Int.natAbs (shl (Rat.num q) (max n 0)))).length c1]) (Pl.Cb.ex dz bI) (by kernel_rfl) rfl (by simp [Value.oneCell']) rfl rfl rfl rfl rfl rfl (fun Y hY=>Pl.Ex.xs iT hY (by omega)) ?_
           intro yu fD gX
           have bY:=Pl.Ex.xs (Pl.Ex.trans bf bI) fD (by omega)
           have qQ:=Pl.Xs.size fD
           have jl:=Pl.Ex.xs iT fD (by omega)
           refine Pl.bg (new:=[.bool (decide ((shl ((Rat.den q:Nat):Int) (max (-n) 0))<0)),.slice A3 (limbs (Int.natAbs (shl ((Rat.den q:Nat):Int) (max (-n) 0)))).length c3]) (Pl.Cb.ex cK (Pl.Ex.trans dh bY)) (by kernel_rfl) rfl (by simp [Value.oneCell']) rfl rfl rfl rfl rfl rfl (fun Y hY=>Pl.Ex.xs jl hY (by omega)) ?_
           intro yM gV je
           have bM:=Pl.Ex.xs (Pl.Ex.trans bu (Pl.Ex.trans dh bY)) gV (by omega)
           have rE:=Pl.Xs.size gV
           have lV:=Pl.Ex.xs jl gV (by omega)
           have j5:=Pl.Cb.xs gX gV (by simp;omega)
           refine Pl.af ?_
           refine Pl.tK (by kernel_rfl) ?_
           refine Pl.jv [(1,.int .i64 n),(2,.int .i64 ((j:Nat):Int)),(6,.pointer (some ⟨N2,0,none⟩)),(7,.int .i64 0),(8,.pointer (some ⟨N3,0,none⟩)),(9,.pointer (some ⟨N6,0,none⟩)),(10,.pointer (some ⟨N5,0,none⟩))] (Pl.aa rfl (Pl.aa rfl (Pl.aa rfl (Pl.aa rfl (Pl.aa rfl (Pl.aa rfl (Pl.aa rfl Pl.aA))))))) ?_
           have k7:=Un.xs u3 fD (Pl.Cb.ex dz bI) (by simp)
           have k8:=Un.xs k7 gV (Pl.Cb.ex cK (Pl.Ex.trans dh bY)) (by simp)
           exact wz _ _ ⟨N6,N5,A1,c1,A3,c3,(Pl.Ex.trans aM (Pl.Ex.trans aH bM)),j5,je,(by omega),(Un.below u1 bM),k8,rfl⟩
       · refine Pl.aU (z:=.agg #[.bool false,.slice none 0 0]) (by kernel_rfl) rfl rfl rfl rfl (fun Y hY=>Pl.Ex.trans bD hY) ?_
         intro N6 w9 dh qJ dz
         have iL:=Pl.Cb.lt dz
         have pG:=Pl.Ex.size dh
         replace dz:Pl.Cb w9 N6 24 [.bool false,.slice none 0 0]:=dz
         have bK:=Pl.Ex.trans bD dh
         refine Pl.af ?_
         refine Pl.aZ [(false,7,14207),(false,11,14335),(false,14,16383),(false,15,32767)] 65535 0 Pl.az (by kernel_rfl) (by kernel_rfl) (by kernel_rfl) ?_
         refine Pl.ah rfl rfl rfl rfl rfl (fun u X=>Pl.enters Tryz.func86 (by kernel_rfl) rfl u X) ?_
         refine Calls.mono (qM _ false _ _ (Un.below ta (Pl.Ex.trans hE1 (Pl.Ex.trans hE2 (Pl.Ex.trans aO (Pl.Ex.trans aP (Pl.Ex.trans aM (Pl.Ex.trans aH (Pl.Ex.trans bu dh)))))))) _ (aI _) ((Rat.den q:Nat):Int) rfl) ?_
         rintro e qD ⟨v2,rfl,hv2,bf⟩
         obtain ⟨A2,c2,rfl,u2⟩:=hv2
         have mD:=Pl.Ex.size bf
         have gK:=Pl.Ex.trans bK bf
         refine ⟨_,rfl,gK,?_⟩
         refine Pl.ah rfl rfl rfl rfl rfl (fun u X=>Pl.enters Tryz.func65 (by kernel_rfl) rfl u X) ?_
         refine Calls.mono (lH _ _ ((Rat.den q:Nat):Int) (max (-n) 0) (Zn.of u2) (Nat.le_trans (Sn.sz ya) (by omega)) (by omega) (by omega) (shl ((Rat.den q:Nat):Int) (max (-n) 0)) rfl) ?_
         rintro e uV ⟨v3,rfl,hv3,bI⟩
         obtain ⟨A3,c3,rfl,u3⟩:=hv3
         have qx:=Pl.Ex.size bI
         have iT:=Pl.Ex.trans gK bI
         refine ⟨_,rfl,iT,?_⟩
         refine Pl.bg (new:=[.bool (decide ((shl (Rat.num q) (max n 0))<0)),.slice A1 (limbs (Int.natAbs (shl (Rat.num q) (max n 0)))).length c1]) (Pl.Cb.ex dz (Pl.Ex.trans bf bI)) (by kernel_rfl) rfl (by simp [Value.oneCell']) rfl rfl rfl rfl rfl rfl (fun Y hY=>Pl.Ex.xs iT hY (by omega)) ?_
         intro yu fD gX
         have bY:=Pl.Ex.xs (Pl.Ex.trans dh (Pl.Ex.trans bf bI)) fD (by omega)
         have qQ:=Pl.Xs.size fD
         have jl:=Pl.Ex.xs iT fD (by omega)
         refine Pl.bg (new:=[.bool (decide ((shl ((Rat.den q:Nat):Int) (max (-n) 0))<0)),.slice A3 (limbs (Int.natAbs (shl ((Rat.den q:Nat):Int) (max (-n) 0)))).length c3]) (Pl.Cb.ex cK bY) (by kernel_rfl) rfl (by simp [Value.oneCell']) rfl rfl rfl rfl rfl rfl (fun Y hY=>Pl.Ex.xs jl hY (by omega)) ?_
         intro yM gV je
         have bM:=Pl.Ex.xs (Pl.Ex.trans bu bY) gV (by omega)
         have rE:=Pl.Xs.size gV
         have lV:=Pl.Ex.xs jl gV (by omega)
         have j5:=Pl.Cb.xs gX gV (by simp;omega)
         refine Pl.af ?_
         refine Pl.tK (by kernel_rfl) ?_
         refine Pl.jv [(1,.int .i64 n),(2,.int .i64 ((j:Nat):Int)),(6,.pointer (some ⟨N2,0,none⟩)),(7,.int .i64 0),(8,.pointer (some ⟨N3,0,none⟩)),(9,.pointer (some ⟨N6,0,none⟩)),(10,.pointer (some ⟨N5,0,none⟩))] (Pl.aa rfl (Pl.aa rfl (Pl.aa rfl (Pl.aa rfl (Pl.aa rfl (Pl.aa rfl (Pl.aa rfl Pl.aA))))))) ?_
         have k7:=Un.xs u3 fD (Pl.Cb.ex dz (Pl.Ex.trans bf bI)) (by simp)
         have k8:=Un.xs k7 gV (Pl.Cb.ex cK bY) (by simp)
         exact wz _ _ ⟨N6,N5,A1,c1,A3,c3,(Pl.Ex.trans aM (Pl.Ex.trans aH bM)),j5,je,(by omega),(Un.below u1 bM),k8,rfl⟩
   · refine Pl.aU (z:=.agg #[.bool false,.slice none 0 0]) (by kernel_rfl) rfl rfl rfl rfl (fun Y hY=>Pl.Ex.trans bS hY) ?_
     intro N5 w7 aH qN cK
     have iy:=Pl.Cb.lt cK
     have iU:=Pl.Ex.size aH
     replace cK:Pl.Cb w7 N5 24 [.bool false,.slice none 0 0]:=cK
     have bE:=Pl.Ex.trans bS aH
     refine Pl.af ?_
     refine Pl.cB [4,13] 5 (by kernel_rfl) (by kernel_rfl) (by kernel_rfl) (Pl.aj ?_ (Pl.aj ?_ Pl.aJ))
     · refine Pl.ah rfl rfl rfl rfl rfl (fun u X=>Pl.enters Tryz.func65 (by kernel_rfl) rfl u X) ?_
       refine Calls.mono (lH _ _ (Rat.num q) (max n 0) (Zn.of (Un.below ua (Pl.Ex.trans hE1 (Pl.Ex.trans hE2 (Pl.Ex.trans aO (Pl.Ex.trans aP (Pl.Ex.trans aM aH))))))) (Nat.le_trans za (by omega)) (by omega) (by omega) (shl (Rat.num q) (max n 0)) rfl) ?_
       rintro e w8 ⟨v1,rfl,hv1,bu⟩
       obtain ⟨A1,c1,rfl,u1⟩:=hv1
       have mh:=Pl.Ex.size bu
       have bD:=Pl.Ex.trans bE bu
       refine ⟨_,rfl,bD,?_⟩
       refine Pl.af ?_
       refine Pl.cB [7,13] 4 (by kernel_rfl) (by kernel_rfl) (by kernel_rfl) (Pl.aj ?_ (Pl.aj ?_ Pl.aJ))
       · refine Pl.ah rfl rfl rfl rfl rfl (fun u X=>Pl.enters Tryz.func86 (by kernel_rfl) rfl u X) ?_
         refine Calls.mono (qM _ false _ _ (Un.below ta (Pl.Ex.trans hE1 (Pl.Ex.trans hE2 (Pl.Ex.trans aO (Pl.Ex.trans aP (Pl.Ex.trans aM (Pl.Ex.trans aH bu))))))) _ (aI _) ((Rat.den q:Nat):Int) rfl) ?_
         rintro e w9 ⟨v2,rfl,hv2,dh⟩
         obtain ⟨A2,c2,rfl,u2⟩:=hv2
         have pG:=Pl.Ex.size dh
         have bK:=Pl.Ex.trans bD dh
         refine ⟨_,rfl,bK,?_⟩
         refine Pl.af ?_
         refine Pl.cB [11,13] 3 (by kernel_rfl) (by kernel_rfl) (by kernel_rfl) (Pl.aj ?_ (Pl.aj ?_ Pl.aJ))
         · refine Pl.ah rfl rfl rfl rfl rfl (fun u X=>Pl.enters Tryz.func65 (by kernel_rfl) rfl u X) ?_
           refine Calls.mono (lH _ _ ((Rat.den q:Nat):Int) (max (-n) 0) (Zn.of u2) (Nat.le_trans (Sn.sz ya) (by omega)) (by omega) (by omega) (shl ((Rat.den q:Nat):Int) (max (-n) 0)) rfl) ?_
           rintro e qD ⟨v3,rfl,hv3,bf⟩
           obtain ⟨A3,c3,rfl,u3⟩:=hv3
           have mD:=Pl.Ex.size bf
           have gK:=Pl.Ex.trans bK bf
           refine ⟨_,rfl,gK,?_⟩
           refine Pl.af ?_
           refine Pl.aZ [(false,13,8191),(false,14,16383),(false,15,32767)] 65535 0 Pl.az (by kernel_rfl) (by kernel_rfl) (by kernel_rfl) ?_
           refine Pl.aU (z:=.agg #[.bool false,.slice none 0 0]) (by kernel_rfl) rfl rfl rfl rfl (fun Y hY=>Pl.Ex.trans gK hY) ?_
           intro N6 uV bI qJ dz
           have iL:=Pl.Cb.lt dz
           have qx:=Pl.Ex.size bI
           replace dz:Pl.Cb uV N6 24 [.bool false,.slice none 0 0]:=dz
           have iT:=Pl.Ex.trans gK bI
           refine Pl.bg (new:=[.bool (decide ((shl (Rat.num q) (max n 0))<0)),.slice A1 (limbs (Int.natAbs (shl (Rat.num q) (max n 0)))).length c1]) (Pl.Cb.ex cK (Pl.Ex.trans bu (Pl.Ex.trans dh (Pl.Ex.trans bf bI)))) (by kernel_rfl) rfl (by simp [Value.oneCell']) rfl rfl rfl rfl rfl rfl (fun Y hY=>Pl.Ex.xs iT hY (by omega)) ?_
           intro yu fD je
           have bY:=Pl.Ex.xs (Pl.Ex.trans aH (Pl.Ex.trans bu (Pl.Ex.trans dh (Pl.Ex.trans bf bI)))) fD (by omega)
           have qQ:=Pl.Xs.size fD
           have jl:=Pl.Ex.xs iT fD (by omega)
           have gX:=Pl.Cb.xs dz fD (by simp;omega)
           refine Pl.bg (new:=[.bool (decide ((shl ((Rat.den q:Nat):Int) (max (-n) 0))<0)),.slice A3 (limbs (Int.natAbs (shl ((Rat.den q:Nat):Int) (max (-n) 0)))).length c3]) gX (by kernel_rfl) rfl (by simp [Value.oneCell']) rfl rfl rfl rfl rfl rfl (fun Y hY=>Pl.Ex.xs jl hY (by omega)) ?_
           intro yM gV j5
           have bM:=Pl.Ex.xs bY gV (by omega)
           have rE:=Pl.Xs.size gV
           have lV:=Pl.Ex.xs jl gV (by omega)
           have qh:=Pl.Cb.xs je gV (by simp;omega)
           refine Pl.af ?_
           refine Pl.tK (by kernel_rfl) ?_
           refine Pl.jv [(1,.int .i64 n),(2,.int .i64 ((j:Nat):Int)),(6,.pointer (some ⟨N2,0,none⟩)),(7,.int .i64 0),(8,.pointer (some ⟨N3,0,none⟩)),(9,.pointer (some ⟨N5,0,none⟩)),(10,.pointer (some ⟨N6,0,none⟩))] (Pl.aa rfl (Pl.aa rfl (Pl.aa rfl (Pl.aa rfl (Pl.aa rfl (Pl.aa rfl (Pl.aa rfl Pl.aA))))))) ?_
           have k7:=Un.xs (Un.below u1 (Pl.Ex.trans dh (Pl.Ex.trans bf bI))) fD (Pl.Cb.ex cK (Pl.Ex.trans bu (Pl.Ex.trans dh (Pl.Ex.trans bf bI)))) (by simp)
           have k8:=Un.xs k7 gV gX (by simp)
           have k9:=Un.xs (Un.below u3 bI) fD (Pl.Cb.ex cK (Pl.Ex.trans bu (Pl.Ex.trans dh (Pl.Ex.trans bf bI)))) (by simp)
           have k10:=Un.xs k9 gV gX (by simp)
           exact wz _ _ ⟨N5,N6,A1,c1,A3,c3,(Pl.Ex.trans aM bM),qh,j5,(by omega),k8,k10,rfl⟩
         · refine Pl.aU (z:=.agg #[.bool false,.slice none 0 0]) (by kernel_rfl) rfl rfl rfl rfl (fun Y hY=>Pl.Ex.trans bK hY) ?_
           intro N6 qD bf qJ dz
           have iL:=Pl.Cb.lt dz
           have mD:=Pl.Ex.size bf
           replace dz:Pl.Cb qD N6 24 [.bool false,.slice none 0 0]:=dz
           have gK:=Pl.Ex.trans bK bf
           refine Pl.af ?_
           refine Pl.aZ [(false,11,14335),(false,14,16383),(false,15,32767)] 65535 0 Pl.az (by kernel_rfl) (by kernel_rfl) (by kernel_rfl) ?_
           refine Pl.ah rfl rfl rfl rfl rfl (fun u X=>Pl.enters Tryz.func65 (by kernel_rfl) rfl u X) ?_
           refine Calls.mono (lH _ _ ((Rat.den q:Nat):Int) (max (-n) 0) (Zn.of (Un.below u2 bf)) (Nat.le_trans (Sn.sz ya) (by omega)) (by omega) (by omega) (shl ((Rat.den q:Nat):Int) (max (-n) 0)) rfl) ?_
           rintro e uV ⟨v3,rfl,hv3,bI⟩
           obtain ⟨A3,c3,rfl,u3⟩:=hv3
           have qx:=Pl.Ex.size bI
           have iT:=Pl.Ex.trans gK bI
           refine ⟨_,rfl,iT,?_⟩
           refine Pl.bg (new:=[.bool (decide ((shl (Rat.num q) (max n 0))<0)),.slice A1 (limbs (Int.natAbs (shl (Rat.num q) (max n 0)))).length c1]) (Pl.Cb.ex cK (Pl.Ex.trans bu (Pl.Ex.trans dh (Pl.Ex.trans bf bI)))) (by kernel_rfl) rfl (by simp [Value.oneCell']) rfl rfl rfl rfl rfl rfl (fun Y hY=>Pl.Ex.xs iT hY (by omega)) ?_
           intro yu fD je
           have bY:=Pl.Ex.xs (Pl.Ex.trans aH (Pl.Ex.trans bu (Pl.Ex.trans dh (Pl.Ex.trans bf bI)))) fD (by omega)
           have qQ:=Pl.Xs.size fD
           have jl:=Pl.Ex.xs iT fD (by omega)
           have gX:=Pl.Cb.xs (Pl.Cb.ex dz bI) fD (by simp;omega)
           refine Pl.bg (new:=[.bool (decide ((shl ((Rat.den q:Nat):Int) (max (-n) 0))<0)),.slice A3 (limbs (Int.natAbs (shl ((Rat.den q:Nat):Int) (max (-n) 0)))).length c3]) gX (by kernel_rfl) rfl (by simp [Value.oneCell']) rfl rfl rfl rfl rfl rfl (fun Y hY=>Pl.Ex.xs jl hY (by omega)) ?_
           intro yM gV j5
           have bM:=Pl.Ex.xs bY gV (by omega)
           have rE:=Pl.Xs.size gV
           have lV:=Pl.Ex.xs jl gV (by omega)
           have qh:=Pl.Cb.xs je gV (by simp;omega)
           refine Pl.af ?_
           refine Pl.tK (by kernel_rfl) ?_
           refine Pl.jv [(1,.int .i64 n),(2,.int .i64 ((j:Nat):Int)),(6,.pointer (some ⟨N2,0,none⟩)),(7,.int .i64 0),(8,.pointer (some ⟨N3,0,none⟩)),(9,.pointer (some ⟨N5,0,none⟩)),(10,.pointer (some ⟨N6,0,none⟩))] (Pl.aa rfl (Pl.aa rfl (Pl.aa rfl (Pl.aa rfl (Pl.aa rfl (Pl.aa rfl (Pl.aa rfl Pl.aA))))))) ?_
           have k7:=Un.xs (Un.below u1 (Pl.Ex.trans dh (Pl.Ex.trans bf bI))) fD (Pl.Cb.ex cK (Pl.Ex.trans bu (Pl.Ex.trans dh (Pl.Ex.trans bf bI)))) (by simp)
           have k8:=Un.xs k7 gV gX (by simp)
           have k9:=Un.xs u3 fD (Pl.Cb.ex cK (Pl.Ex.trans bu (Pl.Ex.trans dh (Pl.Ex.trans bf bI)))) (by simp)
           have k10:=Un.xs k9 gV gX (by simp)
           exact wz _ _ ⟨N5,N6,A1,c1,A3,c3,(Pl.Ex.trans aM bM),qh,j5,(by omega),k8,k10,rfl⟩
       · refine Pl.aU (z:=.agg #[.bool false,.slice none 0 0]) (by kernel_rfl) rfl rfl rfl rfl (fun Y hY=>Pl.Ex.trans bD hY) ?_
         intro N6 w9 dh qJ dz
         have iL:=Pl.Cb.lt dz
         have pG:=Pl.Ex.size dh
         replace dz:Pl.Cb w9 N6 24 [.bool false,.slice none 0 0]:=dz
         have bK:=Pl.Ex.trans bD dh
         refine Pl.af ?_
         refine Pl.aZ [(false,7,14207),(false,11,14335),(false,14,16383),(false,15,32767)] 65535 0 Pl.az (by kernel_rfl) (by kernel_rfl) (by kernel_rfl) ?_
         refine Pl.ah rfl rfl rfl rfl rfl (fun u X=>Pl.enters Tryz.func86 (by kernel_rfl) rfl u X) ?_
         refine Calls.mono (qM _ false _ _ (Un.below ta (Pl.Ex.trans hE1 (Pl.Ex.trans hE2 (Pl.Ex.trans aO (Pl.Ex.trans aP (Pl.Ex.trans aM (Pl.Ex.trans aH (Pl.Ex.trans bu dh)))))))) _ (aI _) ((Rat.den q:Nat):Int) rfl) ?_
         rintro e qD ⟨v2,rfl,hv2,bf⟩
         obtain ⟨A2,c2,rfl,u2⟩:=hv2
         have mD:=Pl.Ex.size bf
         have gK:=Pl.Ex.trans bK bf
         refine ⟨_,rfl,gK,?_⟩
         refine Pl.ah rfl rfl rfl rfl rfl (fun u X=>Pl.enters Tryz.func65 (by kernel_rfl) rfl u X) ?_
         refine Calls.mono (lH _ _ ((Rat.den q:Nat):Int) (max (-n) 0) (Zn.of u2) (Nat.le_trans (Sn.sz ya) (by omega)) (by omega) (by omega) (shl ((Rat.den q:Nat):Int) (max (-n) 0)) rfl) ?_
         rintro e uV ⟨v3,rfl,hv3,bI⟩
         obtain ⟨A3,c3,rfl,u3⟩:=hv3
         have qx:=Pl.Ex.size bI
         have iT:=Pl.Ex.trans gK bI
         refine ⟨_,rfl,iT,?_⟩
         refine Pl.bg (new:=[.bool (decide ((shl (Rat.num q) (max n 0))<0)),.slice A1 (limbs (Int.natAbs (shl (Rat.num q) (max n 0)))).length c1]) (Pl.Cb.ex cK (Pl.Ex.trans bu (Pl.Ex.trans dh (Pl.Ex.trans bf bI)))) (by kernel_rfl) rfl (by simp [Value.oneCell']) rfl rfl rfl rfl rfl rfl (fun Y hY=>Pl.Ex.xs iT hY (by omega)) ?_
         intro yu fD je
         have bY:=Pl.Ex.xs (Pl.Ex.trans aH (Pl.Ex.trans bu (Pl.Ex.trans dh (Pl.Ex.trans bf bI)))) fD (by omega)
         have qQ:=Pl.Xs.size fD
         have jl:=Pl.Ex.xs iT fD (by omega)
         have gX:=Pl.Cb.xs (Pl.Cb.ex dz (Pl.Ex.trans bf bI)) fD (by simp;omega)
         refine Pl.bg (new:=[.bool (decide ((shl ((Rat.den q:Nat):Int) (max (-n) 0))<0)),.slice A3 (limbs (Int.natAbs (shl ((Rat.den q:Nat):Int) (max (-n) 0)))).length c3]) gX (by kernel_rfl) rfl (by simp [Value.oneCell']) rfl rfl rfl rfl rfl rfl (fun Y hY=>Pl.Ex.xs jl hY (by omega)) ?_
         intro yM gV j5
         have bM:=Pl.Ex.xs bY gV (by omega)
         have rE:=Pl.Xs.size gV
         have lV:=Pl.Ex.xs jl gV (by omega)
         have qh:=Pl.Cb.xs je gV (by simp;omega)
         refine Pl.af ?_
         refine Pl.tK (by kernel_rfl) ?_
         refine Pl.jv [(1,.int .i64 n),(2,.int .i64 ((j:Nat):Int)),(6,.pointer (some ⟨N2,0,none⟩)),(7,.int .i64 0),(8,.pointer (some ⟨N3,0,none⟩)),(9,.pointer (some ⟨N5,0,none⟩)),(10,.pointer (some ⟨N6,0,none⟩))] (Pl.aa rfl (Pl.aa rfl (Pl.aa rfl (Pl.aa rfl (Pl.aa rfl (Pl.aa rfl (Pl.aa rfl Pl.aA))))))) ?_
         have k7:=Un.xs (Un.below u1 (Pl.Ex.trans dh (Pl.Ex.trans bf bI))) fD (Pl.Cb.ex cK (Pl.Ex.trans bu (Pl.Ex.trans dh (Pl.Ex.trans bf bI)))) (by simp)
         have k8:=Un.xs k7 gV gX (by simp)
         have k9:=Un.xs u3 fD (Pl.Cb.ex cK (Pl.Ex.trans bu (Pl.Ex.trans dh (Pl.Ex.trans bf bI)))) (by simp)
         have k10:=Un.xs k9 gV gX (by simp)
         exact wz _ _ ⟨N5,N6,A1,c1,A3,c3,(Pl.Ex.trans aM bM),qh,j5,(by omega),k8,k10,rfl⟩
     · refine Pl.aU (z:=.agg #[.bool false,.slice none 0 0]) (by kernel_rfl) rfl rfl rfl rfl (fun Y hY=>Pl.Ex.trans bE hY) ?_
       intro N6 w8 bu qJ dz
       have iL:=Pl.Cb.lt dz
       have mh:=Pl.Ex.size bu
       replace dz:Pl.Cb w8 N6 24 [.bool false,.slice none 0 0]:=dz
       have bD:=Pl.Ex.trans bE bu
       refine Pl.af ?_
       refine Pl.aZ [(false,4,14191),(false,7,14207),(false,11,14335),(false,14,16383),(false,15,32767)] 65535 0 Pl.az (by kernel_rfl) (by kernel_rfl) (by kernel_rfl) ?_
       refine Pl.ah rfl rfl rfl rfl rfl (fun u X=>Pl.enters Tryz.func65 (by kernel_rfl) rfl u X) ?_
       refine Calls.mono (lH _ _ (Rat.num q) (max n 0) (Zn.of (Un.below ua (Pl.Ex.trans hE1 (Pl.Ex.trans hE2 (Pl.Ex.trans aO (Pl.Ex.trans aP (Pl.Ex.trans aM (Pl.Ex.trans aH bu)))))))) (Nat.le_trans za (by omega)) (by omega) (by omega) (shl (Rat.num q) (max n 0)) rfl) ?_
       rintro e w9 ⟨v1,rfl,hv1,dh⟩
       obtain ⟨A1,c1,rfl,u1⟩:=hv1
       have pG:=Pl.Ex.size dh
       have bK:=Pl.Ex.trans bD dh
       refine ⟨_,rfl,bK,?_⟩
       refine Pl.ah rfl rfl rfl rfl rfl (fun u X=>Pl.enters Tryz.func86 (by kernel_rfl) rfl u X) ?_
       refine Calls.mono (qM _ false _ _ (Un.below ta (Pl.Ex.trans hE1 (Pl.Ex.trans hE2 (Pl.Ex.trans aO (Pl.Ex.trans aP (Pl.Ex.trans aM (Pl.Ex.trans aH (Pl.Ex.trans bu dh)))))))) _ (aI _) ((Rat.den q:Nat):Int) rfl) ?_
       rintro e qD ⟨v2,rfl,hv2,bf⟩
       obtain ⟨A2,c2,rfl,u2⟩:=hv2
       have mD:=Pl.Ex.size bf
       have gK:=Pl.Ex.trans bK bf
       refine ⟨_,rfl,gK,?_⟩
       refine Pl.ah rfl rfl rfl rfl rfl (fun u X=>Pl.enters Tryz.func65 (by kernel_rfl) rfl u X) ?_
       refine Calls.mono (lH _ _ ((Rat.den q:Nat):Int) (max (-n) 0) (Zn.of u2) (Nat.le_trans (Sn.sz ya) (by omega)) (by omega) (by omega) (shl ((Rat.den q:Nat):Int) (max (-n) 0)) rfl) ?_
       rintro e uV ⟨v3,rfl,hv3,bI⟩
       obtain ⟨A3,c3,rfl,u3⟩:=hv3
       have qx:=Pl.Ex.size bI
       have iT:=Pl.Ex.trans gK bI
       refine ⟨_,rfl,iT,?_⟩
       refine Pl.bg (new:=[.bool (decide ((shl (Rat.num q) (max n 0))<0)),.slice A1 (limbs (Int.natAbs (shl (Rat.num q) (max n 0)))).length c1]) (Pl.Cb.ex cK (Pl.Ex.trans bu (Pl.Ex.trans dh (Pl.Ex.trans bf bI)))) (by kernel_rfl) rfl (by simp [Value.oneCell']) rfl rfl rfl rfl rfl rfl (fun Y hY=>Pl.Ex.xs iT hY (by omega)) ?_
       intro yu fD je
       have bY:=Pl.Ex.xs (Pl.Ex.trans aH (Pl.Ex.trans bu (Pl.Ex.trans dh (Pl.Ex.trans bf bI)))) fD (by omega)
       have qQ:=Pl.Xs.size fD
       have jl:=Pl.Ex.xs iT fD (by omega)
       have gX:=Pl.Cb.xs (Pl.Cb.ex dz (Pl.Ex.trans dh (Pl.Ex.trans bf bI))) fD (by simp;omega)
       refine Pl.bg (new:=[.bool (decide ((shl ((Rat.den q:Nat):Int) (max (-n) 0))<0)),.slice A3 (limbs (Int.natAbs (shl ((Rat.den q:Nat):Int) (max (-n) 0)))).length c3]) gX (by kernel_rfl) rfl (by simp [Value.oneCell']) rfl rfl rfl rfl rfl rfl (fun Y hY=>Pl.Ex.xs jl hY (by omega)) ?_
       intro yM gV j5
       have bM:=Pl.Ex.xs bY gV (by omega)
       have rE:=Pl.Xs.size gV
       have lV:=Pl.Ex.xs jl gV (by omega)
       have qh:=Pl.Cb.xs je gV (by simp;omega)
       refine Pl.af ?_
       refine Pl.tK (by kernel_rfl) ?_
       refine Pl.jv [(1,.int .i64 n),(2,.int .i64 ((j:Nat):Int)),(6,.pointer (some ⟨N2,0,none⟩)),(7,.int .i64 0),(8,.pointer (some ⟨N3,0,none⟩)),(9,.pointer (some ⟨N5,0,none⟩)),(10,.pointer (some ⟨N6,0,none⟩))] (Pl.aa rfl (Pl.aa rfl (Pl.aa rfl (Pl.aa rfl (Pl.aa rfl (Pl.aa rfl (Pl.aa rfl Pl.aA))))))) ?_
       have k7:=Un.xs (Un.below u1 (Pl.Ex.trans bf bI)) fD (Pl.Cb.ex cK (Pl.Ex.trans bu (Pl.Ex.trans dh (Pl.Ex.trans bf bI)))) (by simp)
       have k8:=Un.xs k7 gV gX (by simp)
       have k9:=Un.xs u3 fD (Pl.Cb.ex cK (Pl.Ex.trans bu (Pl.Ex.trans dh (Pl.Ex.trans bf bI)))) (by simp)
       have k10:=Un.xs k9 gV gX (by simp)
       exact wz _ _ ⟨N5,N6,A1,c1,A3,c3,(Pl.Ex.trans aM bM),qh,j5,(by omega),k8,k10,rfl⟩
   · refine Pl.aU (z:=.agg #[.bool false,.slice none 0 0]) (by kernel_rfl) rfl rfl rfl rfl (fun Y hY=>Pl.Ex.trans bS hY) ?_
     intro N5 w7 aH qN cK
     have iy:=Pl.Cb.lt cK
     have iU:=Pl.Ex.size aH
     replace cK:Pl.Cb w7 N5 24 [.bool false,.slice none 0 0]:=cK
     have bE:=Pl.Ex.trans bS aH
     refine Pl.af ?_
     refine Pl.cB [4,12] 5 (by kernel_rfl) (by kernel_rfl) (by kernel_rfl) (Pl.aj ?_ (Pl.aj ?_ Pl.aJ))
     · refine Pl.ah rfl rfl rfl rfl rfl (fun u X=>Pl.enters Tryz.func65 (by kernel_rfl) rfl u X) ?_
       refine Calls.mono (lH _ _ (Rat.num q) (max n 0) (Zn.of (Un.below ua (Pl.Ex.trans hE1 (Pl.Ex.trans hE2 (Pl.Ex.trans aO (Pl.Ex.trans aP (Pl.Ex.trans aM aH))))))) (Nat.le_trans za (by omega)) (by omega) (by omega) (shl (Rat.num q) (max n 0)) rfl) ?_
       rintro e w8 ⟨v1,rfl,hv1,bu⟩
       obtain ⟨A1,c1,rfl,u1⟩:=hv1
       have mh:=Pl.Ex.size bu
       have bD:=Pl.Ex.trans bE bu
       refine ⟨_,rfl,bD,?_⟩
       refine Pl.af ?_
       refine Pl.cB [7,12] 4 (by kernel_rfl) (by kernel_rfl) (by kernel_rfl) (Pl.aj ?_ (Pl.aj ?_ Pl.aJ))
       · refine Pl.ah rfl rfl rfl rfl rfl (fun u X=>Pl.enters Tryz.func86 (by kernel_rfl) rfl u X) ?_
         refine Calls.mono (qM _ false _ _ (Un.below ta (Pl.Ex.trans hE1 (Pl.Ex.trans hE2 (Pl.Ex.trans aO (Pl.Ex.trans aP (Pl.Ex.trans aM (Pl.Ex.trans aH bu))))))) _ (aI _) ((Rat.den q:Nat):Int) rfl) ?_
         rintro e w9 ⟨v2,rfl,hv2,dh⟩
         obtain ⟨A2,c2,rfl,u2⟩:=hv2
         have pG:=Pl.Ex.size dh
         have bK:=Pl.Ex.trans bD dh
         refine ⟨_,rfl,bK,?_⟩
         refine Pl.af ?_
         refine Pl.cB [11,12] 3 (by kernel_rfl) (by kernel_rfl) (by kernel_rfl) (Pl.aj ?_ (Pl.aj ?_ Pl.aJ))
         · refine Pl.ah rfl rfl rfl rfl rfl (fun u X=>Pl.enters Tryz.func65 (by kernel_rfl) rfl u X) ?_
           refine Calls.mono (lH _ _ ((Rat.den q:Nat):Int) (max (-n) 0) (Zn.of u2) (Nat.le_trans (Sn.sz ya) (by omega)) (by omega) (by omega) (shl ((Rat.den q:Nat):Int) (max (-n) 0)) rfl) ?_
           rintro e qD ⟨v3,rfl,hv3,bf⟩
           obtain ⟨A3,c3,rfl,u3⟩:=hv3
           have mD:=Pl.Ex.size bf
           have gK:=Pl.Ex.trans bK bf
           refine ⟨_,rfl,gK,?_⟩
           refine Pl.af ?_
           refine Pl.aZ [(false,12,12287),(false,14,16383),(false,15,32767)] 65535 0 Pl.az (by kernel_rfl) (by kernel_rfl) (by kernel_rfl) ?_
           refine Pl.aU (z:=.agg #[.bool false,.slice none 0 0]) (by kernel_rfl) rfl rfl rfl rfl (fun Y hY=>Pl.Ex.trans gK hY) ?_
           intro N6 uV bI qJ dz
           have iL:=Pl.Cb.lt dz
           have qx:=Pl.Ex.size bI
           replace dz:Pl.Cb uV N6 24 [.bool false,.slice none 0 0]:=dz
           have iT:=Pl.Ex.trans gK bI
           refine Pl.bg (new:=[.bool (decide ((shl (Rat.num q) (max n 0))<0)),.slice A1 (limbs (Int.natAbs (shl (Rat.num q) (max n 0)))).length c1]) dz (by kernel_rfl) rfl (by simp [Value.oneCell']) rfl rfl rfl rfl rfl rfl (fun Y hY=>Pl.Ex.xs iT hY (by omega)) ?_
           intro yu fD gX
           have bY:=Pl.Ex.xs bI fD (by omega)
           have qQ:=Pl.Xs.size fD
           have jl:=Pl.Ex.xs iT fD (by omega)
           refine Pl.bg (new:=[.bool (decide ((shl ((Rat.den q:Nat):Int) (max (-n) 0))<0)),.slice A3 (limbs (Int.natAbs (shl ((Rat.den q:Nat):Int) (max (-n) 0)))).length c3]) (Pl.Cb.ex cK (Pl.Ex.trans bu (Pl.Ex.trans dh (Pl.Ex.trans bf bY)))) (by kernel_rfl) rfl (by simp [Value.oneCell']) rfl rfl rfl rfl rfl rfl (fun Y hY=>Pl.Ex.xs jl hY (by omega)) ?_
           intro yM gV je
           have bM:=Pl.Ex.xs (Pl.Ex.trans aH (Pl.Ex.trans bu (Pl.Ex.trans dh (Pl.Ex.trans bf bY)))) gV (by omega)
           have rE:=Pl.Xs.size gV
           have lV:=Pl.Ex.xs jl gV (by omega)
           have j5:=Pl.Cb.xs gX gV (by simp;omega)
           refine Pl.af ?_
           refine Pl.tK (by kernel_rfl) ?_
           refine Pl.jv [(1,.int .i64 n),(2,.int .i64 ((j:Nat):Int)),(6,.pointer (some ⟨N2,0,none⟩)),(7,.int .i64 0),(8,.pointer (some ⟨N3,0,none⟩)),(9,.pointer (some ⟨N6,0,none⟩)),(10,.pointer (some ⟨N5,0,none⟩))] (Pl.aa rfl (Pl.aa rfl (Pl.aa rfl (Pl.aa rfl (Pl.aa rfl (Pl.aa rfl (Pl.aa rfl Pl.aA))))))) ?_
           have k7:=Un.xs (Un.below u1 (Pl.Ex.trans dh (Pl.Ex.trans bf bY))) gV (Pl.Cb.ex cK (Pl.Ex.trans bu (Pl.Ex.trans dh (Pl.Ex.trans bf bY)))) (by simp)
           have k8:=Un.xs (Un.below u3 bY) gV (Pl.Cb.ex cK (Pl.Ex.trans bu (Pl.Ex.trans dh (Pl.Ex.trans bf bY)))) (by simp)
           exact wz _ _ ⟨N6,N5,A1,c1,A3,c3,(Pl.Ex.trans aM bM),j5,je,(by omega),k7,k8,rfl⟩
         · refine Pl.aU (z:=.agg #[.bool false,.slice none 0 0]) (by kernel_rfl) rfl rfl rfl rfl (fun Y hY=>Pl.Ex.trans bK hY) ?_
           intro N6 qD bf qJ dz
           have iL:=Pl.Cb.lt dz
           have mD:=Pl.Ex.size bf
           replace dz:Pl.Cb qD N6 24 [.bool false,.slice none 0 0]:=dz
           have gK:=Pl.Ex.trans bK bf
           refine Pl.af ?_
           refine Pl.aZ [(false,11,14335),(false,14,16383),(false,15,32767)] 65535 0 Pl.az (by kernel_rfl) (by kernel_rfl) (by kernel_rfl) ?_
           refine Pl.ah rfl rfl rfl rfl rfl (fun u X=>Pl.enters Tryz.func65 (by kernel_rfl) rfl u X) ?_
           refine Calls.mono (lH _ _ ((Rat.den q:Nat):Int) (max (-n) 0) (Zn.of (Un.below u2 bf)) (Nat.le_trans (Sn.sz ya) (by omega)) (by omega) (by omega) (shl ((Rat.den q:Nat):Int) (max (-n) 0)) rfl) ?_
           rintro e uV ⟨v3,rfl,hv3,bI⟩
           obtain ⟨A3,c3,rfl,u3⟩:=hv3
           have qx:=Pl.Ex.size bI
           have iT:=Pl.Ex.trans gK bI
           refine ⟨_,rfl,iT,?_⟩
           refine Pl.bg (new:=[.bool (decide ((shl (Rat.num q) (max n 0))<0)),.slice A1 (limbs (Int.natAbs (shl (Rat.num q) (max n 0)))).length c1]) (Pl.Cb.ex dz bI) (by kernel_rfl) rfl (by simp [Value.oneCell']) rfl rfl rfl rfl rfl rfl (fun Y hY=>Pl.Ex.xs iT hY (by omega)) ?_
           intro yu fD gX
           have bY:=Pl.Ex.xs (Pl.Ex.trans bf bI) fD (by omega)
           have qQ:=Pl.Xs.size fD
           have jl:=Pl.Ex.xs iT fD (by omega)
           refine Pl.bg (new:=[.bool (decide ((shl ((Rat.den q:Nat):Int) (max (-n) 0))<0)),.slice A3 (limbs (Int.natAbs (shl ((Rat.den q:Nat):Int) (max (-n) 0)))).length c3]) (Pl.Cb.ex cK (Pl.Ex.trans bu (Pl.Ex.trans dh bY))) (by kernel_rfl) rfl (by simp [Value.oneCell']) rfl rfl rfl rfl rfl rfl (fun Y hY=>Pl.Ex.xs jl hY (by omega)) ?_
           intro yM gV je
           have bM:=Pl.Ex.xs (Pl.Ex.trans aH (Pl.Ex.trans bu (Pl.Ex.trans dh bY))) gV (by omega)
           have rE:=Pl.Xs.size gV
           have lV:=Pl.Ex.xs jl gV (by omega)
           have j5:=Pl.Cb.xs gX gV (by simp;omega)
           refine Pl.af ?_
           refine Pl.tK (by kernel_rfl) ?_
           refine Pl.jv [(1,.int .i64 n),(2,.int .i64 ((j:Nat):Int)),(6,.pointer (some ⟨N2,0,none⟩)),(7,.int .i64 0),(8,.pointer (some ⟨N3,0,none⟩)),(9,.pointer (some ⟨N6,0,none⟩)),(10,.pointer (some ⟨N5,0,none⟩))] (Pl.aa rfl (Pl.aa rfl (Pl.aa rfl (Pl.aa rfl (Pl.aa rfl (Pl.aa rfl (Pl.aa rfl Pl.aA))))))) ?_
           have k7:=Un.xs (Un.below u1 (Pl.Ex.trans dh bY)) gV (Pl.Cb.ex cK (Pl.Ex.trans bu (Pl.Ex.trans dh bY))) (by simp)
           have k8:=Un.xs u3 fD (Pl.Cb.ex dz bI) (by simp)
           have k9:=Un.xs k8 gV (Pl.Cb.ex cK (Pl.Ex.trans bu (Pl.Ex.trans dh bY))) (by simp)
           exact wz _ _ ⟨N6,N5,A1,c1,A3,c3,(Pl.Ex.trans aM bM),j5,je,(by omega),k7,k9,rfl⟩
       · refine Pl.aU (z:=.agg #[.bool false,.slice none 0 0]) (by kernel_rfl) rfl rfl rfl rfl (fun Y hY=>Pl.Ex.trans bD hY) ?_
         intro N6 w9 dh qJ dz
         have iL:=Pl.Cb.lt dz
         have pG:=Pl.Ex.size dh
         replace dz:Pl.Cb w9 N6 24 [.bool false,.slice none 0 0]:=dz
         have bK:=Pl.Ex.trans bD dh
         refine Pl.af ?_
         refine Pl.aZ [(false,7,14207),(false,11,14335),(false,14,16383),(false,15,32767)] 65535 0 Pl.az (by kernel_rfl) (by kernel_rfl) (by kernel_rfl) ?_
         refine Pl.ah rfl rfl rfl rfl rfl (fun u X=>Pl.enters Tryz.func86 (by kernel_rfl) rfl u X) ?_
         refine Calls.mono (qM _ false _ _ (Un.below ta (Pl.Ex.trans hE1 (Pl.Ex.trans hE2 (Pl.Ex.trans aO (Pl.Ex.trans aP (Pl.Ex.trans aM (Pl.Ex.trans aH (Pl.Ex.trans bu dh)))))))) _ (aI _) ((Rat.den q:Nat):Int) rfl) ?_
         rintro e qD ⟨v2,rfl,hv2,bf⟩
         obtain ⟨A2,c2,rfl,u2⟩:=hv2
         have mD:=Pl.Ex.size bf
         have gK:=Pl.Ex.trans bK bf
         refine ⟨_,rfl,gK,?_⟩
         refine Pl.ah rfl rfl rfl rfl rfl (fun u X=>Pl.enters Tryz.func65 (by kernel_rfl) rfl u X) ?_
         refine Calls.mono (lH _ _ ((Rat.den q:Nat):Int) (max (-n) 0) (Zn.of u2) (Nat.le_trans (Sn.sz ya) (by omega)) (by omega) (by omega) (shl ((Rat.den q:Nat):Int) (max (-n) 0)) rfl) ?_
         rintro e uV ⟨v3,rfl,hv3,bI⟩
         obtain ⟨A3,c3,rfl,u3⟩:=hv3
         have qx:=Pl.Ex.size bI
         have iT:=Pl.Ex.trans gK bI
         refine ⟨_,rfl,iT,?_⟩
         refine Pl.bg (new:=[.bool (decide ((shl (Rat.num q) (max n 0))<0)),.slice A1 (limbs (Int.natAbs (shl (Rat.num q) (max n 0)))).length c1]) (Pl.Cb.ex dz (Pl.Ex.trans bf bI)) (by kernel_rfl) rfl (by simp [Value.oneCell']) rfl rfl rfl rfl rfl rfl (fun Y hY=>Pl.Ex.xs iT hY (by omega)) ?_
         intro yu fD gX
         have bY:=Pl.Ex.xs (Pl.Ex.trans dh (Pl.Ex.trans bf bI)) fD (by omega)
         have qQ:=Pl.Xs.size fD
         have jl:=Pl.Ex.xs iT fD (by omega)
         refine Pl.bg (new:=[.bool (decide ((shl ((Rat.den q:Nat):Int) (max (-n) 0))<0)),.slice A3 (limbs (Int.natAbs (shl ((Rat.den q:Nat):Int) (max (-n) 0)))).length c3]) (Pl.Cb.ex cK (Pl.Ex.trans bu bY)) (by kernel_rfl) rfl (by simp [Value.oneCell']) rfl rfl rfl rfl rfl rfl (fun Y hY=>Pl.Ex.xs jl hY (by omega)) ?_
         intro yM gV je
         have bM:=Pl.Ex.xs (Pl.Ex.trans aH (Pl.Ex.trans bu bY)) gV (by omega)
         have rE:=Pl.Xs.size gV
         have lV:=Pl.Ex.xs jl gV (by omega)
         have j5:=Pl.Cb.xs gX gV (by simp;omega)
         refine Pl.af ?_
         refine Pl.tK (by kernel_rfl) ?_
         refine Pl.jv [(1,.int .i64 n),(2,.int .i64 ((j:Nat):Int)),(6,.pointer (some ⟨N2,0,none⟩)),(7,.int .i64 0),(8,.pointer (some ⟨N3,0,none⟩)),(9,.pointer (some ⟨N6,0,none⟩)),(10,.pointer (some ⟨N5,0,none⟩))] (Pl.aa rfl (Pl.aa rfl (Pl.aa rfl (Pl.aa rfl (Pl.aa rfl (Pl.aa rfl (Pl.aa rfl Pl.aA))))))) ?_
         have k7:=Un.xs (Un.below u1 bY) gV (Pl.Cb.ex cK (Pl.Ex.trans bu bY)) (by simp)
         have k8:=Un.xs u3 fD (Pl.Cb.ex dz (Pl.Ex.trans bf bI)) (by simp)
         have k9:=Un.xs k8 gV (Pl.Cb.ex cK (Pl.Ex.trans bu bY)) (by simp)
         exact wz _ _ ⟨N6,N5,A1,c1,A3,c3,(Pl.Ex.trans aM bM),j5,je,(by omega),k7,k9,rfl⟩
     · refine Pl.aU (z:=.agg #[.bool false,.slice none 0 0]) (by kernel_rfl) rfl rfl rfl rfl (fun Y hY=>Pl.Ex.trans bE hY) ?_
       intro N6 w8 bu qJ dz
       have iL:=Pl.Cb.lt dz
       have mh:=Pl.Ex.size bu
       replace dz:Pl.Cb w8 N6 24 [.bool false,.slice none 0 0]:=dz
       have bD:=Pl.Ex.trans bE bu
       refine Pl.af ?_
       refine Pl.aZ [(false,4,14191),(false,7,14207),(false,11,14335),(false,14,16383),(false,15,32767)] 65535 0 Pl.az (by kernel_rfl) (by kernel_rfl) (by kernel_rfl) ?_
       refine Pl.ah rfl rfl rfl rfl rfl (fun u X=>Pl.enters Tryz.func65 (by kernel_rfl) rfl u X) ?_
       refine Calls.mono (lH _ _ (Rat.num q) (max n 0) (Zn.of (Un.below ua (Pl.Ex.trans hE1 (Pl.Ex.trans hE2 (Pl.Ex.trans aO (Pl.Ex.trans aP (Pl.Ex.trans aM (Pl.Ex.trans aH bu)))))))) (Nat.le_trans za (by omega)) (by omega) (by omega) (shl (Rat.num q) (max n 0)) rfl) ?_
       rintro e w9 ⟨v1,rfl,hv1,dh⟩
       obtain ⟨A1,c1,rfl,u1⟩:=hv1
       have pG:=Pl.Ex.size dh
       have bK:=Pl.Ex.trans bD dh
       refine ⟨_,rfl,bK,?_⟩
       refine Pl.ah rfl rfl rfl rfl rfl (fun u X=>Pl.enters Tryz.func86 (by kernel_rfl) rfl u X) ?_
       refine Calls.mono (qM _ false _ _ (Un.below ta (Pl.Ex.trans hE1 (Pl.Ex.trans hE2 (Pl.Ex.trans aO (Pl.Ex.trans aP (Pl.Ex.trans aM (Pl.Ex.trans aH (Pl.Ex.trans bu dh)))))))) _ (aI _) ((Rat.den q:Nat):Int) rfl) ?_
       rintro e qD ⟨v2,rfl,hv2,bf⟩
       obtain ⟨A2,c2,rfl,u2⟩:=hv2
       have mD:=Pl.Ex.size bf
       have gK:=Pl.Ex.trans bK bf
       refine ⟨_,rfl,gK,?_⟩
       refine Pl.ah rfl rfl rfl rfl rfl (fun u X=>Pl.enters Tryz.func65 (by kernel_rfl) rfl u X) ?_
       refine Calls.mono (lH _ _ ((Rat.den q:Nat):Int) (max (-n) 0) (Zn.of u2) (Nat.le_trans (Sn.sz ya) (by omega)) (by omega) (by omega) (shl ((Rat.den q:Nat):Int) (max (-n) 0)) rfl) ?_
       rintro e uV ⟨v3,rfl,hv3,bI⟩
       obtain ⟨A3,c3,rfl,u3⟩:=hv3
       have qx:=Pl.Ex.size bI
       have iT:=Pl.Ex.trans gK bI
       refine ⟨_,rfl,iT,?_⟩
       refine Pl.bg (new:=[.bool (decide ((shl (Rat.num q) (max n 0))<0)),.slice A1 (limbs (Int.natAbs (shl (Rat.num q) (max n 0)))).length c1]) (Pl.Cb.ex dz (Pl.Ex.trans dh (Pl.Ex.trans bf bI))) (by kernel_rfl) rfl (by simp [Value.oneCell']) rfl rfl rfl rfl rfl rfl (fun Y hY=>Pl.Ex.xs iT hY (by omega)) ?_
       intro yu fD gX
       have bY:=Pl.Ex.xs (Pl.Ex.trans bu (Pl.Ex.trans dh (Pl.Ex.trans bf bI))) fD (by omega)
       have qQ:=Pl.Xs.size fD
       have jl:=Pl.Ex.xs iT fD (by omega)
       refine Pl.bg (new:=[.bool (decide ((shl ((Rat.den q:Nat):Int) (max (-n) 0))<0)),.slice A3 (limbs (Int.natAbs (shl ((Rat.den q:Nat):Int) (max (-n) 0)))).length c3]) (Pl.Cb.ex cK bY) (by kernel_rfl) rfl (by simp [Value.oneCell']) rfl rfl rfl rfl rfl rfl (fun Y hY=>Pl.Ex.xs jl hY (by omega)) ?_
       intro yM gV je
       have bM:=Pl.Ex.xs (Pl.Ex.trans aH bY) gV (by omega)
       have rE:=Pl.Xs.size gV
       have lV:=Pl.Ex.xs jl gV (by omega)
       have j5:=Pl.Cb.xs gX gV (by simp;omega)
       refine Pl.af ?_
       refine Pl.tK (by kernel_rfl) ?_
       refine Pl.jv [(1,.int .i64 n),(2,.int .i64 ((j:Nat):Int)),(6,.pointer (some ⟨N2,0,none⟩)),(7,.int .i64 0),(8,.pointer (some ⟨N3,0,none⟩)),(9,.pointer (some ⟨N6,0,none⟩)),(10,.pointer (some ⟨N5,0,none⟩))] (Pl.aa rfl (Pl.aa rfl (Pl.aa rfl (Pl.aa rfl (Pl.aa rfl (Pl.aa rfl (Pl.aa rfl Pl.aA))))))) ?_
       have k7:=Un.xs (Un.below u1 (Pl.Ex.trans bf bI)) fD (Pl.Cb.ex dz (Pl.Ex.trans dh (Pl.Ex.trans bf bI))) (by simp)
       have k8:=Un.xs k7 gV (Pl.Cb.ex cK bY) (by simp)
       have k9:=Un.xs u3 fD (Pl.Cb.ex dz (Pl.Ex.trans dh (Pl.Ex.trans bf bI))) (by simp)
       have k10:=Un.xs k9 gV (Pl.Cb.ex cK bY) (by simp)
       exact wz _ _ ⟨N6,N5,A1,c1,A3,c3,(Pl.Ex.trans aM bM),j5,je,(by omega),k8,k10,rfl⟩
theorem KJ (w:World) (va:Value) (x:Rat) (n z:Int) (L:Nat) (lo hi:Int) (ha:Dn w va x L lo hi) (hz:z<0∨5≤z) :
  Calls Tryz.prog 41 #[va,.int .i64 n,.int .i64 z] w fun e w'=>e = .returned (.tuple #[.agg #[.bool false,.slice none 0 0,.int .i64 0],.int .i64 1])∧Pl.Ex w w':=by
 obtain ⟨ma,ea,Aa,ca,rfl,ua,da⟩:=ha
 have CF:=da.lo
 have CG:=da.hi
 refine Pl.bL (n:=38) (vs:=[.agg #[.bool (decide (ma<0)),.slice Aa (limbs (Int.natAbs ma)).length ca,.int .i64 ea],.int .i64 n,.int .i64 z]) Tryz.func41 rfl (by kernel_rfl) (by simp) ?_
 repeat refine Pl.ay ?_
 refine Pl.aB (by kernel_rfl) ?_
 refine Pl.dN (cs:=[.bool (decide (ma<0)),.slice Aa (limbs (Int.natAbs ma)).length ca,.int .i64 ea]) rfl rfl rfl rfl rfl rfl (fun Y hY=>trivial) ?_
 intro N1 w1 hE1 eP aC
 have ig:=Pl.Cb.lt aC
 have mH:=Pl.Ex.size hE1
 refine Pl.aU (z:=.agg #[.bool false,.slice none 0 0,.int .i64 0]) (by kernel_rfl) rfl rfl rfl rfl (fun Y hY=>trivial) ?_
 intro N2 w2 hE2 gD aD
 have iB:=Pl.Cb.lt aD
 have mY:=Pl.Ex.size hE2
 replace aD:Pl.Cb w2 N2 26 [.bool false,.slice none 0 0,.int .i64 0]:=aD
 refine Pl.aG trivial rfl ?_
 refine Pl.af ?_
 repeat refine Pl.ay ?_
 refine Pl.aB (by kernel_rfl) ?_
 refine Pl.ah rfl rfl rfl rfl rfl (fun u X=>Pl.enters Tryz.func85 (by kernel_rfl) rfl u X) ?_
 refine Calls.mono (Cr _) ?_
 rintro e w3 ⟨Na,Nb,rfl,ka,kb,aO⟩
 have mZ:=Pl.Ex.size aO
 refine ⟨_,rfl,trivial,?_⟩
 refine Pl.aU (z:=.agg #[.nilFunc,.nilFunc,.nilFunc,.nilFunc,.nilFunc]) (by kernel_rfl) rfl rfl rfl rfl (fun Y hY=>trivial) ?_
 intro N3 w4 aR jP aL
 have iJ:=Pl.Cb.lt aL
 have l9:=Pl.Ex.size aR
 replace aL:Pl.Cb w4 N3 93 [.nilFunc,.nilFunc,.nilFunc,.nilFunc,.nilFunc]:=aL
 refine Pl.bg (new:=[.func (.func 120) #[] #[],.func (.func 121) #[] #[],.func (.func 122) #[] #[.pointer (some ⟨Na,0,none⟩)],.func (.func 123) #[] #[.pointer (some ⟨Na,0,none⟩)],.func (.func 124) #[] #[.pointer (some ⟨Nb,0,none⟩)]]) aL (by kernel_rfl) rfl (by simp [Value.oneCell']) rfl rfl rfl rfl rfl rfl (fun Y hY=>trivial) ?_
 intro w5 kF dX
 have aP:=Pl.Ex.xs aR kF (by omega)
 have jY:=Pl.Xs.size kF
 refine Pl.af ?_
 repeat refine Pl.ay ?_
 refine Pl.aB (by kernel_rfl) ?_
 refine Pl.aG trivial rfl ?_
 by_cases c4:z<0
 · refine Pl.dO (v:=.bool true) (fun X=>Bh c4 X) trivial rfl rfl rfl rfl rfl rfl ?_
   refine Pl.aG trivial rfl ?_
   refine Pl.af ?_
   repeat refine Pl.ay ?_
   refine Pl.iO rfl ?_
   repeat refine Pl.ay ?_
   refine Pl.aB (by kernel_rfl) ?_
   refine Pl.bC (.agg #[.bool false,.slice none 0 0,.int .i64 0]) trivial rfl rfl rfl rfl (fun X=>by kernel_rfl) ?_
   refine Pl.bg (new:=[.bool false,.slice none 0 0,.int .i64 0]) (Pl.Cb.ex aD (Pl.Ex.trans aO aP)) (by kernel_rfl) rfl (by simp [Value.oneCell']) rfl rfl rfl rfl rfl rfl (fun Y hY=>trivial) ?_
   intro w6 lS dG
   have aM:=Pl.Ex.xs (Pl.Ex.trans hE2 (Pl.Ex.trans aO aP)) lS (by omega)
   have jr:=Pl.Xs.size lS
   have qR:=Pl.Cb.xs dX lS (by simp;omega)
   refine Pl.aG trivial rfl ?_
   refine Pl.af ?_
   repeat refine Pl.ay ?_
   exact Pl.nQ rfl rfl rfl dG Tryz.underlying26 rfl (by kernel_rfl) (⟨rfl,(Pl.Ex.trans hE1 aM)⟩)
 · refine Pl.dO (v:=.bool false) (fun X=>Bi c4 X) trivial rfl rfl rfl rfl rfl rfl ?_
   refine Pl.aG trivial rfl ?_
   refine Pl.dO (v:=.bool true) (fun X=>sU (by omega) X) trivial rfl rfl rfl rfl rfl rfl ?_
   refine Pl.aG trivial rfl ?_
   refine Pl.af ?_
   repeat refine Pl.ay ?_
   refine Pl.iO rfl ?_
   repeat refine Pl.ay ?_
   refine Pl.aB (by kernel_rfl) ?_
   refine Pl.bC (.agg #[.bool false,.slice none 0 0,.int .i64 0]) trivial rfl rfl rfl rfl (fun X=>by kernel_rfl) ?_
   refine Pl.bg (new:=[.bool false,.slice none 0 0,.int .i64 0]) (Pl.Cb.ex aD (Pl.Ex.trans aO aP)) (by kernel_rfl) rfl (by simp [Value.oneCell']) rfl rfl rfl rfl rfl rfl (fun Y hY=>trivial) ?_
   intro w6 lS dG
   have aM:=Pl.Ex.xs (Pl.Ex.trans hE2 (Pl.Ex.trans aO aP)) lS (by omega)
   have jr:=Pl.Xs.size lS
   have qR:=Pl.Cb.xs dX lS (by simp;omega)
   refine Pl.aG trivial rfl ?_
   refine Pl.af ?_
   repeat refine Pl.ay ?_
   exact Pl.nQ rfl rfl rfl dG Tryz.underlying26 rfl (by kernel_rfl) (⟨rfl,(Pl.Ex.trans hE1 aM)⟩)
theorem wY (w:World) (hg:Gt w) (va:Value) (x:Rat) (n:Int) (j:Nat) (hj:j<5) (L J:Nat) (lo hi:Int) (ha:Dn w va x L lo hi) (hL:L+J≤900) (hn : -900000≤n∧n≤900000) (hlo : -900000≤lo) (hhi:hi≤900000) (hJ : -lo-n≤32*(J:Int)) (lo2 hi2:Int) (h1:lo2 ≤ -n) (h2 : -n+32*(L+1:Nat)≤hi2) (h3:lo2≤0) (h4:0≤hi2) (h5:lo2≤lo) (h6:hi≤hi2) :
  Calls Tryz.prog 41 #[va,.int .i64 n,.int .i64 ((j:Nat):Int)] w fun e w'=>∃ u,e = .returned (.tuple #[u,.int .i64 0])∧Dn w' u (Dy.cut j x n) (L+1) lo2 hi2∧Pl.Ex w w':=by
 obtain ⟨ma,ea,Aa,ca,rfl,ua,da⟩:=ha
 have CF:=da.lo
 have CG:=da.hi
 refine Pl.bL (n:=38) (vs:=[.agg #[.bool (decide (ma<0)),.slice Aa (limbs (Int.natAbs ma)).length ca,.int .i64 ea],.int .i64 n,.int .i64 ((j:Nat):Int)]) Tryz.func41 rfl (by kernel_rfl) (by simp) ?_
 repeat refine Pl.ay ?_
 refine Pl.aB (by kernel_rfl) ?_
 refine Pl.dN (cs:=[.bool (decide (ma<0)),.slice Aa (limbs (Int.natAbs ma)).length ca,.int .i64 ea]) rfl rfl rfl rfl rfl rfl (fun Y hY=>trivial) ?_
 intro N1 w1 hE1 eP aC
 have ig:=Pl.Cb.lt aC
 have mH:=Pl.Ex.size hE1
 refine Pl.aU (z:=.agg #[.bool false,.slice none 0 0,.int .i64 0]) (by kernel_rfl) rfl rfl rfl rfl (fun Y hY=>trivial) ?_
 intro N2 w2 hE2 gD aD
 have iB:=Pl.Cb.lt aD
 have mY:=Pl.Ex.size hE2
 replace aD:Pl.Cb w2 N2 26 [.bool false,.slice none 0 0,.int .i64 0]:=aD
 refine Pl.aG trivial rfl ?_
 refine Pl.af ?_
 repeat refine Pl.ay ?_
 refine Pl.aB (by kernel_rfl) ?_
 refine Pl.ah rfl rfl rfl rfl rfl (fun u X=>Pl.enters Tryz.func85 (by kernel_rfl) rfl u X) ?_
 refine Calls.mono (Cr _) ?_
 rintro e w3 ⟨Na,Nb,rfl,ka,kb,aO⟩
 have mZ:=Pl.Ex.size aO
 refine ⟨_,rfl,trivial,?_⟩
 refine Pl.aU (z:=.agg #[.nilFunc,.nilFunc,.nilFunc,.nilFunc,.nilFunc]) (by kernel_rfl) rfl rfl rfl rfl (fun Y hY=>trivial) ?_
 intro N3 w4 aR jP aL
 have iJ:=Pl.Cb.lt aL
 have l9:=Pl.Ex.size aR
 replace aL:Pl.Cb w4 N3 93 [.nilFunc,.nilFunc,.nilFunc,.nilFunc,.nilFunc]:=aL
 refine Pl.bg (new:=[.func (.func 120) #[] #[],.func (.func 121) #[] #[],.func (.func 122) #[] #[.pointer (some ⟨Na,0,none⟩)],.func (.func 123) #[] #[.pointer (some ⟨Na,0,none⟩)],.func (.func 124) #[] #[.pointer (some ⟨Nb,0,none⟩)]]) aL (by kernel_rfl) rfl (by simp [Value.oneCell']) rfl rfl rfl rfl rfl rfl (fun Y hY=>trivial) ?_
 intro w5 kF dX
 have aP:=Pl.Ex.xs aR kF (by omega)
 have jY:=Pl.Xs.size kF
 refine Pl.af ?_
 repeat refine Pl.ay ?_
 refine Pl.aB (by kernel_rfl) ?_
 refine Pl.aG trivial rfl ?_
 have ahi:¬ (j<0):=by omega
 refine Pl.dO (v:=.bool false) (fun X=>Pl.IP (decide_eq_false (by omega)) X) trivial rfl rfl rfl rfl rfl rfl ?_
 refine Pl.aG trivial rfl ?_
 have ahj:¬ (j≥5):=by omega
 refine Pl.dO (v:=.bool false) (fun X=>Pl.TQ (decide_eq_false (by omega)) X) trivial rfl rfl rfl rfl rfl rfl ?_
 refine Pl.aG trivial rfl ?_
 refine Pl.af ?_
 repeat refine Pl.ay ?_
 refine Pl.gm rfl ?_
 repeat refine Pl.ay ?_
 refine Pl.iK ?_
 repeat refine Pl.ay ?_
 refine Pl.aB (by kernel_rfl) ?_
 refine Pl.bC (.pointer (some ⟨N1,2,none⟩)) trivial rfl rfl rfl rfl (fun X=>by kernel_rfl) ?_
 refine Pl.eT (v:=.int .i64 ea) Tryz.underlying3 rfl (Pl.Cb.at (j:=2) (Pl.Cb.ex aC (Pl.Ex.trans hE2 (Pl.Ex.trans aO aP))) rfl) trivial rfl rfl rfl rfl rfl ?_
 refine Pl.aG trivial rfl ?_
 refine Pl.dO (v:=.int .i64 (ea+n)) (fun X=>xG (by omega) X) trivial rfl rfl rfl rfl rfl rfl ?_
 by_cases c4:(ea+n)≥0
 · refine Pl.dO (v:=.bool true) (fun X=>sU c4 X) trivial rfl rfl rfl rfl rfl rfl ?_
   refine Pl.af ?_
   repeat refine Pl.ay ?_
   refine Pl.iO rfl ?_
   repeat refine Pl.ay ?_
   refine Pl.aB (by kernel_rfl) ?_
   refine Pl.dJ (part:=[.bool (decide (ma<0)),.slice Aa (limbs (Int.natAbs ma)).length ca,.int .i64 ea]) (Pl.Cb.ex aC (Pl.Ex.trans hE2 (Pl.Ex.trans aO aP))) rfl Tryz.underlying26 rfl (by kernel_rfl) trivial rfl rfl rfl rfl rfl ?_
   refine Pl.bg (new:=[.bool (decide (ma<0)),.slice Aa (limbs (Int.natAbs ma)).length ca,.int .i64 ea]) (Pl.Cb.ex aD (Pl.Ex.trans aO aP)) (by kernel_rfl) rfl (by simp [Value.oneCell']) rfl rfl rfl rfl rfl rfl (fun Y hY=>trivial) ?_
   intro w6 lS dG
   have aM:=Pl.Ex.xs (Pl.Ex.trans hE2 (Pl.Ex.trans aO aP)) lS (by omega)
   have jr:=Pl.Xs.size lS
   have qR:=Pl.Cb.xs dX lS (by simp;omega)
   refine Pl.aG trivial rfl ?_
   refine Pl.af ?_
   repeat refine Pl.ay ?_
   exact Pl.nQ rfl rfl rfl dG Tryz.underlying26 rfl (by kernel_rfl) (⟨_,rfl,Dn.mk (Un.below ua (Pl.Ex.trans hE1 aM)) da.can (by rw [← da.val,Dy.TC j ma ea n (by omega)]) (da.sz.le (by omega)) (by omega) (by omega),(Pl.Ex.trans hE1 aM)⟩)
 · refine Pl.dO (v:=.bool false) (fun X=>vF c4 X) trivial rfl rfl rfl rfl rfl rfl ?_
   refine Pl.af ?_
   repeat refine Pl.ay ?_
   refine Pl.gm rfl ?_
   repeat refine Pl.ay ?_
   refine Pl.iK ?_
   repeat refine Pl.ay ?_
   refine Pl.fJ (S:=fun X=>Pl.Ex w1 X∧Pl.Cb X N3 93 [.func (.func 120) #[] #[],.func (.func 121) #[] #[],.func (.func 122) #[] #[.pointer (some ⟨Na,0,none⟩)],.func (.func 123) #[] #[.pointer (some ⟨Na,0,none⟩)],.func (.func 124) #[] #[.pointer (some ⟨Nb,0,none⟩)]]) [(true,0,0),(true,1,1),(true,2,3),(true,3,7),(true,4,15),(true,5,31),(true,6,63),(true,7,127),(true,8,255),(true,9,511),(true,12,1023),(true,13,5119),(false,10,13311),(false,11,14335),(false,14,16383),(false,15,32767),(true,16,65535)] fo Pl.az (by kernel_rfl) ⟨Pl.Ex.trans (Pl.Ex.trans hE2 (Pl.Ex.trans aO aP)) (Pl.Ex.drew _),Pl.Cb.ex dX (Pl.Ex.drew _)⟩ ?_
   have aM:=Pl.Ex.drew w5
   generalize w5.drew=w6 at *
   have jr:=Pl.Ex.size aM
   intro bS
   refine Pl.aG bS rfl ?_
   refine Pl.zC (s:=1) (j:=j) Tryz.underlying93 (by kernel_rfl) rfl (by omega) bS rfl rfl rfl rfl rfl rfl ?_
   rw [X4]
   refine Pl.bT (q:=j) (part:=[R4 Na Nb j]) (fun X hX=>hX.2) (PK Na Nb hj) Tryz.underlying92 rfl (by kernel_rfl) bS rfl rfl rfl rfl rfl ?_
   refine Pl.bC (.pointer (some ⟨N1,0,none⟩)) bS rfl rfl rfl rfl (fun X=>by kernel_rfl) ?_
   refine Pl.bT (part:=[.bool (decide (ma<0)),.slice Aa (limbs (Int.natAbs ma)).length ca]) (fun X hX=>Pl.Cb.ex aC hX.1) rfl Tryz.underlying24 rfl (by kernel_rfl) bS rfl rfl rfl rfl rfl ?_
   refine Pl.bC (.pointer (some ⟨N1,2,none⟩)) bS rfl rfl rfl rfl (fun X=>by kernel_rfl) ?_
   refine Pl.iE (v:=.int .i64 ea) Tryz.underlying3 rfl (fun X hX=>Pl.Cb.at (j:=2) (Pl.Cb.ex aC hX.1) rfl) bS rfl rfl rfl rfl rfl ?_
   refine Pl.mK (v:=.int .i64 (-ea)) bS rfl rfl rfl rfl rfl (fun X=>uA (by omega) X) ?_
   refine Pl.aG bS rfl ?_
   refine Pl.dO (v:=.int .i64 ((-ea)-n)) (fun X=>rO (by omega) X) bS rfl rfl rfl rfl rfl rfl ?_
   refine Pl.aG bS rfl ?_
   refine Pl.mK (v:=.int .i64 (-n)) bS rfl rfl rfl rfl rfl (fun X=>uA (by omega) X) ?_
   refine Pl.ah rfl rfl rfl rfl rfl (fun u X=>Pl.enters Tryz.func81 (by kernel_rfl) rfl u X) ?_
   refine Calls.mono (Gn _ (-ea-n) (by omega) (by omega)) ?_
   rintro e w7 ⟨v1,rfl,hv1,aH⟩
   obtain ⟨A1,c1,rfl,u1⟩:=hv1
   have l1:Sz (shl 1 (-ea-n)) (J+1):=qP (K:=1) (j:=J) (Sz.lit (by decide) (by decide)) (by omega) (by omega)
   have p1:0<shl 1 (-ea-n):=Dy.Eb (by decide) (by omega)
   have iU:=Pl.Ex.size aH
   have bE:=And.intro (Pl.Ex.trans bS.1 aH) (Pl.Cb.ex bS.2 aH)
   refine ⟨_,rfl,bE,?_⟩
   refine Pl.ah rfl rfl rfl rfl rfl (fun u X=>Pl.enters Tryz.func87 (by kernel_rfl) rfl u X) ?_
   refine Calls.mono (I7 _ j hj Na Nb (Pl.Cb.ex ka (Pl.Ex.trans aP (Pl.Ex.trans aM aH))) (Pl.Cb.ex kb (Pl.Ex.trans aP (Pl.Ex.trans aM aH))) _ _ ma (shl 1 (-ea-n)) (Zn.of (Un.below ua (Pl.Ex.trans hE1 (Pl.Ex.trans hE2 (Pl.Ex.trans aO (Pl.Ex.trans aP (Pl.Ex.trans aM aH))))))) (Zn.of u1) L (J+1) da.sz l1 (by omega) (by omega) p1) ?_
   rintro e w8 ⟨v4,rfl,hv4,bu⟩
   have lr:=X6 (j:=j) da.sz p1
   rw [show ((ma:Int):Rat)/((shl 1 (-ea-n):Int):Rat)=Dy.dv ma ea*2^n from Dy.RU ma ea n (by omega),da.val] at hv4 lr
   obtain ⟨A4,c4,rfl,u4⟩:=hv4
   have mh:=Pl.Ex.size bu
   have bD:=And.intro (Pl.Ex.trans bE.1 bu) (Pl.Cb.ex bE.2 bu)
   refine ⟨_,rfl,bD,?_⟩
   refine Pl.ah rfl rfl rfl rfl rfl (fun u X=>Pl.enters Tryz.func18 (by kernel_rfl) rfl u X) ?_
   refine Calls.mono (lU _ (hg.ext (Pl.Ex.trans hE1 (Pl.Ex.trans hE2 (Pl.Ex.trans aO (Pl.Ex.trans aP (Pl.Ex.trans aM (Pl.Ex.trans aH bu))))))) _ (Dy.BX j (x*2^n)) (-n) (Zn.of u4) (L+1) lr (by omega) (by omega) lo2 hi2 (by omega) (by omega) (by omega) (by omega)) ?_
   rintro e w9 ⟨vd,rfl,hvd,dh⟩
   obtain ⟨m1,e1,A5,c5,rfl,u5,d1⟩:=hvd
   have pG:=Pl.Ex.size dh
   have bK:=And.intro (Pl.Ex.trans bD.1 dh) (Pl.Cb.ex bD.2 dh)
   refine ⟨_,rfl,bK,?_⟩
   refine Pl.bg (new:=[.bool (decide (m1<0)),.slice A5 (limbs (Int.natAbs m1)).length c5,.int .i64 e1]) (Pl.Cb.ex aD (Pl.Ex.trans aO (Pl.Ex.trans aP (Pl.Ex.trans aM (Pl.Ex.trans aH (Pl.Ex.trans bu dh)))))) (by kernel_rfl) rfl (by simp [Value.oneCell']) rfl rfl rfl rfl rfl rfl (fun Y hY=>⟨Pl.Ex.xs bK.1 hY (by omega),Pl.Cb.xs bK.2 hY (by simp;omega)⟩) ?_
   intro qD eU dG
   have bf:=Pl.Ex.xs (Pl.Ex.trans hE2 (Pl.Ex.trans aO (Pl.Ex.trans aP (Pl.Ex.trans aM (Pl.Ex.trans aH (Pl.Ex.trans bu dh)))))) eU (by omega)
   have mD:=Pl.Xs.size eU
   have gK:=And.intro (Pl.Ex.xs bK.1 eU (by omega)) (Pl.Cb.xs bK.2 eU (by simp;omega))
   have qR:=Pl.Cb.xs (Pl.Cb.ex dX (Pl.Ex.trans aM (Pl.Ex.trans aH (Pl.Ex.trans bu dh)))) eU (by simp;omega)
   refine Pl.aG gK rfl ?_
   refine Pl.af ?_
   have k5:=Un.xs u5 eU (Pl.Cb.ex aD (Pl.Ex.trans aO (Pl.Ex.trans aP (Pl.Ex.trans aM (Pl.Ex.trans aH (Pl.Ex.trans bu dh)))))) (by simp)
   repeat refine Pl.ay ?_
   exact Pl.nQ rfl rfl rfl dG Tryz.underlying26 rfl (by kernel_rfl) (⟨_,rfl,(Dn.mk k5 d1.can d1.val d1.sz d1.lo d1.hi),(Pl.Ex.trans hE1 bf)⟩)
end Go.Proofs.YtdpmbgomcjnohaaGreatDoor
