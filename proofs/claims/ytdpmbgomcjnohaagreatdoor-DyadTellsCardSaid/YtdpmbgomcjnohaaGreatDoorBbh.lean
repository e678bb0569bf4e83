/- Numbers made right, and which are. -/
import Derived.Test.YtdpmbgomcjnohaaGreatDoorBbg
import Derived.Test.YtdpmbgomcjnohaaGreatDoorBaj
import Derived.Test.YtdpmbgomcjnohaaGreatDoorBbd

namespace Go.Proofs.YtdpmbgomcjnohaaGreatDoor
open Go.RowKit 
set_option linter.all false
set_option maxRecDepth 100000
set_option maxHeartbeats 8000000
theorem BX {z:Int} (h:Sz z 65536):(eO (limbs z.natAbs)&&!(decide (z<0)&&decide ((limbs z.natAbs).length=0)))=true:=by
 have h1:(limbs z.natAbs).length≤65536:=h
 have h2:=@kC z.natAbs
 rw [Bool.and_eq_true]
 refine ⟨?_,?_⟩
 · unfold eO
   rw [decide_eq_true h1,Bool.true_and,Bool.or_eq_true]
   by_cases h0:z.natAbs=0
   · left;rw [h0,aX];rfl
   · right;rw [bne_iff_ne];exact CJ h0
 · by_cases h3:z<0
   · rw [decide_eq_false (p:=(limbs z.natAbs).length=0) (fun h9=>by have:=h2.1 h9;omega),Bool.and_false];rfl
   · rw [decide_eq_false h3];rfl
theorem xy (w:World) (A:Option Addr) (c:Nat) (z ee:Int) (u:Un w (.slice A (limbs z.natAbs).length c) z.natAbs) (lz:Sz z 65536) :
  Calls Tryz.prog 13 #[.agg #[.bool (decide (z<0)),.slice A (limbs z.natAbs).length c,.int .i64 ee]] w fun e w'=>e = .returned (.bool (decide ((z=0∧ee=0∨z%2=1) ∧ -100000≤ee∧ee≤100000)))∧Pl.Ex w w':=by
 refine Pl.aN (n:=31) (vs:=[.agg #[.bool (decide (z<0)),.slice A (limbs (Int.natAbs z)).length c,.int .i64 ee]]) Tryz.func13 rfl (by kernel_rfl) (by simp) ?_
 repeat refine Pl.af ?_
 refine Pl.ah (by kernel_rfl) ?_
 refine Pl.bF (cs:=[.bool (decide (z<0)),.slice A (limbs (Int.natAbs z)).length c,.int .i64 ee]) rfl rfl rfl rfl rfl rfl (fun Y hY=>trivial) ?_
 intro N1 w1 hE1 bT ak
 have dP:=Pl.Cb.lt ak
 have jC:=Pl.Ex.size hE1
 refine Pl.aG trivial rfl ?_
 refine Pl.aj ?_
 repeat refine Pl.af ?_
 refine Pl.ah (by kernel_rfl) ?_
 refine Pl.aL (.pointer (some ⟨N1,0,none⟩)) trivial rfl rfl rfl rfl (fun X=>by kernel_rfl) ?_
 refine Pl.bg (part:=[.bool (decide (z<0)),.slice A (limbs (Int.natAbs z)).length c]) ak rfl Tryz.underlying24 rfl (by kernel_rfl) trivial rfl rfl rfl rfl rfl ?_
 refine Pl.ay rfl rfl rfl rfl rfl (fun u X=>Pl.enters Tryz.func59 (by kernel_rfl) rfl u X) ?_
 refine Calls.mono (PW _ _ _ _ (Zn.ri (Zn.of (Un.below u hE1))) true (BX (Sz.le lz (by omega)))) ?_
 rintro e w2 ⟨rfl,hE2⟩
 have jM:=Pl.Ex.size hE2
 refine ⟨_,rfl,trivial,?_⟩
 refine Pl.qb (v:=.bool false) trivial rfl rfl rfl rfl rfl (fun X=>rfl) ?_
 refine Pl.aG trivial rfl ?_
 refine Pl.aL (.pointer (some ⟨N1,2,none⟩)) trivial rfl rfl rfl rfl (fun X=>by kernel_rfl) ?_
 refine Pl.bD (v:=.int .i64 ee) Tryz.underlying3 rfl (Pl.Cb.at (j:=2) (Pl.Cb.ex ak hE2) rfl) trivial rfl rfl rfl rfl rfl ?_
 by_cases c2:ee<(-100000)
 · refine Pl.bP (v:=.bool true) (fun X=>kZ c2 X) trivial rfl rfl rfl rfl rfl rfl ?_
   refine Pl.aG trivial rfl ?_
   refine Pl.aj ?_
   repeat refine Pl.af ?_
   refine Pl.fP rfl ?_
   repeat refine Pl.af ?_
   refine Pl.ah (by kernel_rfl) ?_
   refine Pl.aG trivial rfl ?_
   refine Pl.aj ?_
   repeat refine Pl.af ?_
   exact Pl.aZ rfl rfl  (⟨by rw [decide_eq_false (show ¬ ((z=0∧ee=0∨z%2=1) ∧ -100000≤ee∧ee≤100000) by have hl1:=@kC z.natAbs;omega)],(Pl.Ex.trans hE1 hE2)⟩)
 · refine Pl.bP (v:=.bool false) (fun X=>jG c2 X) trivial rfl rfl rfl rfl rfl rfl ?_
   refine Pl.aG trivial rfl ?_
   refine Pl.aL (.pointer (some ⟨N1,2,none⟩)) trivial rfl rfl rfl rfl (fun X=>by kernel_rfl) ?_
   refine Pl.bD (v:=.int .i64 ee) Tryz.underlying3 rfl (Pl.Cb.at (j:=2) (Pl.Cb.ex ak hE2) rfl) trivial rfl rfl rfl rfl rfl ?_
   by_cases c3:ee>100000
   · refine Pl.bP (v:=.bool true) (fun X=>sF c3 X) trivial rfl rfl rfl rfl rfl rfl ?_
     refine Pl.aG trivial rfl ?_
     refine Pl.aj ?_
     repeat refine Pl.af ?_
     refine Pl.fP rfl ?_
     repeat refine Pl.af ?_
     refine Pl.ah (by kernel_rfl) ?_
     refine Pl.aG trivial rfl ?_
     refine Pl.aj ?_
     repeat refine Pl.af ?_
     exact Pl.aZ rfl rfl  (⟨by rw [decide_eq_false (show ¬ ((z=0∧ee=0∨z%2=1) ∧ -100000≤ee∧ee≤100000) by have hl1:=@kC z.natAbs;omega)],(Pl.Ex.trans hE1 hE2)⟩)
   · refine Pl.bP (v:=.bool false) (fun X=>BU c3 X) trivial rfl rfl rfl rfl rfl rfl ?_
     refine Pl.aG trivial rfl ?_
     refine Pl.aj ?_
     repeat refine Pl.af ?_
     refine Pl.dH rfl ?_
     repeat refine Pl.af ?_
     refine Pl.fG ?_
     repeat refine Pl.af ?_
     refine Pl.ah (by kernel_rfl) ?_
     refine Pl.aL (.pointer (some ⟨N1,0,none⟩)) trivial rfl rfl rfl rfl (fun X=>by kernel_rfl) ?_
     refine Pl.bg (part:=[.bool (decide (z<0)),.slice A (limbs (Int.natAbs z)).length c]) (Pl.Cb.ex ak hE2) rfl Tryz.underlying24 rfl (by kernel_rfl) trivial rfl rfl rfl rfl rfl ?_
     refine Pl.ay rfl rfl rfl rfl rfl (fun u X=>Pl.enters Tryz.func60 (by kernel_rfl) rfl u X) ?_
     refine Calls.mono (Cr _ _ z (Zn.of (Un.below u (Pl.Ex.trans hE1 hE2))) _ rfl) ?_
     rintro e w3 ⟨rfl,aJ⟩
     obtain ⟨k4,qk4⟩:∃ z9,Int.sign z=z9:=⟨_,rfl⟩
     rw [qk4]
     have YF:=qL qk4
     have jX:=Pl.Ex.size aJ
     refine ⟨_,rfl,trivial,?_⟩
     by_cases c5:k4=0
     · refine Pl.bP (v:=.bool true) (fun X=>ed c5 X) trivial rfl rfl rfl rfl rfl rfl ?_
       refine Pl.aj ?_
       repeat refine Pl.af ?_
       refine Pl.fP rfl ?_
       repeat refine Pl.af ?_
       refine Pl.ah (by kernel_rfl) ?_
       refine Pl.aL (.pointer (some ⟨N1,2,none⟩)) trivial rfl rfl rfl rfl (fun X=>by kernel_rfl) ?_
       refine Pl.bD (v:=.int .i64 ee) Tryz.underlying3 rfl (Pl.Cb.at (j:=2) (Pl.Cb.ex ak (Pl.Ex.trans hE2 aJ)) rfl) trivial rfl rfl rfl rfl rfl ?_
       by_cases c6:ee=0
       · refine Pl.bP (v:=.bool true) (fun X=>ed c6 X) trivial rfl rfl rfl rfl rfl rfl ?_
         refine Pl.aG trivial rfl ?_
         refine Pl.aj ?_
         repeat refine Pl.af ?_
         exact Pl.aZ rfl rfl  (⟨by rw [decide_eq_true (show (z=0∧ee=0∨z%2=1) ∧ -100000≤ee∧ee≤100000 by have hl1:=@kC z.natAbs;omega)],(Pl.Ex.trans hE1 (Pl.Ex.trans hE2 aJ))⟩)
       · refine Pl.bP (v:=.bool false) (fun X=>jB c6 X) trivial rfl rfl rfl rfl rfl rfl ?_
         refine Pl.aG trivial rfl ?_
         refine Pl.aj ?_
         repeat refine Pl.af ?_
         exact Pl.aZ rfl rfl  (⟨by rw [decide_eq_false (show ¬ ((z=0∧ee=0∨z%2=1) ∧ -100000≤ee∧ee≤100000) by have hl1:=@kC z.natAbs;omega)],(Pl.Ex.trans hE1 (Pl.Ex.trans hE2 aJ))⟩)
     · refine Pl.bP (v:=.bool false) (fun X=>jB c5 X) trivial rfl rfl rfl rfl rfl rfl ?_
       refine Pl.aj ?_
       repeat refine Pl.af ?_
       refine Pl.dH rfl ?_
       repeat refine Pl.af ?_
       refine Pl.fG ?_
       repeat refine Pl.af ?_
       refine Pl.ah (by kernel_rfl) ?_
       refine Pl.aL (.pointer (some ⟨N1,0,none⟩)) trivial rfl rfl rfl rfl (fun X=>by kernel_rfl) ?_
       refine Pl.aL (.pointer (some ⟨N1,1,none⟩)) trivial rfl rfl rfl rfl (fun X=>by kernel_rfl) ?_
       refine Pl.bD (v:=.slice A (limbs (Int.natAbs z)).length c) Tryz.underlying22 rfl (Pl.Cb.at (j:=1) (Pl.Cb.ex ak (Pl.Ex.trans hE2 aJ)) rfl) trivial rfl rfl rfl rfl rfl ?_
       have hl0:=@kC z.natAbs
       have hq0:z.natAbs≠0:=by omega
       obtain ⟨ad,hA1,hcell⟩:=Hy u (i:=0) (by omega)
       subst hA1
       refine Pl.Hz (s:=1) (j:=0) Tryz.underlying22 (by kernel_rfl) rfl (by omega) trivial rfl rfl rfl rfl rfl rfl ?_
       refine Pl.bD (v:=.int .u32 (((z.natAbs%4294967296):Nat):Int)) Tryz.underlying67 rfl (xu (Un.below u (Pl.Ex.trans hE1 (Pl.Ex.trans hE2 aJ))) hq0) trivial rfl rfl rfl rfl rfl ?_
       refine Pl.bP (v:=.int .u32 (((z.natAbs%2):Nat):Int)) (fun X=>FC aah (by omega) (by decide) X) trivial rfl rfl rfl rfl rfl rfl ?_
       by_cases c6:(z.natAbs%2)=1
       · refine Pl.bP (v:=.bool true) (fun X=>Pl.gW (Pl.e_t (by omega)) X) trivial rfl rfl rfl rfl rfl rfl ?_
         refine Pl.aG trivial rfl ?_
         refine Pl.aj ?_
         repeat refine Pl.af ?_
         exact Pl.aZ rfl rfl  (⟨by rw [decide_eq_true (show (z=0∧ee=0∨z%2=1) ∧ -100000≤ee∧ee≤100000 by have hl1:=@kC z.natAbs;omega)],(Pl.Ex.trans hE1 (Pl.Ex.trans hE2 aJ))⟩)
       · refine Pl.bP (v:=.bool false) (fun X=>Pl.gW (Pl.e_f (by omega)) X) trivial rfl rfl rfl rfl rfl rfl ?_
         refine Pl.aG trivial rfl ?_
         refine Pl.aj ?_
         repeat refine Pl.af ?_
         exact Pl.aZ rfl rfl  (⟨by rw [decide_eq_false (show ¬ ((z=0∧ee=0∨z%2=1) ∧ -100000≤ee∧ee≤100000) by have hl1:=@kC z.natAbs;omega)],(Pl.Ex.trans hE1 (Pl.Ex.trans hE2 aJ))⟩)
end Go.Proofs.YtdpmbgomcjnohaaGreatDoor
/- The laws: small numbers. -/
namespace Go.Proofs.YtdpmbgomcjnohaaGreatDoor
open Go.RowKit 
set_option linter.all false
set_option maxRecDepth 100000
set_option maxHeartbeats 8000000
theorem NW {m e lo hi n:Int} {x:Rat} {L J:Nat} (d:Dd m e x L lo hi) (h:hi+n≤32*(J:Int)):Sz (Rat.floor (x*2^n)) (L+J):=by
 have h1:=d.hi
 rw [← d.val,Dy.scaled]
 exact jF (j:=J) d.sz (by omega) (Nat.le_refl _)
theorem dF (w:World) (m ee:Int) (hm : -4294967296<m∧m<4294967296) (he : -1000000≤ee∧ee≤1000000) :
  Calls Tryz.prog 58 #[.int .i64 m,.int .i64 ee] w fun e w'=>∃ A c,e = .returned (.agg #[.bool (decide (m<0)),.slice A (limbs m.natAbs).length c,.int .i64 ee])∧Un w' (.slice A (limbs m.natAbs).length c) m.natAbs∧Pl.Ex w w':=by
 refine Pl.aN (n:=9) (vs:=[.int .i64 m,.int .i64 ee]) Tryz.func58 rfl (by kernel_rfl) (by simp) ?_
 repeat refine Pl.af ?_
 refine Pl.ah (by kernel_rfl) ?_
 refine Pl.bK (z:=.agg #[.bool false,.slice none 0 0,.int .i64 0]) (by kernel_rfl) rfl rfl rfl rfl (fun Y hY=>trivial) ?_
 intro N1 w1 hE1 bT ak
 have dP:=Pl.Cb.lt ak
 have jC:=Pl.Ex.size hE1
 replace ak:Pl.Cb w1 N1 26 [.bool false,.slice none 0 0,.int .i64 0]:=ak
 refine Pl.aj ?_
 repeat refine Pl.af ?_
 refine Pl.ah (by kernel_rfl) ?_
 refine Pl.aG trivial rfl ?_
 refine Pl.ay rfl rfl rfl rfl rfl (fun u X=>Pl.enters Tryz.func53 (by kernel_rfl) rfl u X) ?_
 refine Calls.mono (uG _ m (by omega) (by omega)) ?_
 rintro e w2 ⟨v1,rfl,hv1,hE2⟩
 obtain ⟨A1,c1,rfl,u1⟩:=hv1
 have jM:=Pl.Ex.size hE2
 refine ⟨_,rfl,trivial,?_⟩
 refine Pl.aG trivial rfl ?_
 refine Pl.aL (.agg #[.bool (decide (m<0)),.slice A1 (limbs (Int.natAbs m)).length c1,.int .i64 ee]) trivial rfl rfl rfl rfl (fun X=>by kernel_rfl) ?_
 refine Pl.bz (new:=[.bool (decide (m<0)),.slice A1 (limbs (Int.natAbs m)).length c1,.int .i64 ee]) (Pl.Cb.ex ak hE2) (by kernel_rfl) rfl (by simp [Value.oneCell']) rfl rfl rfl rfl rfl rfl (fun Y hY=>trivial) ?_
 intro w3 Gs gQ
 have aJ:=Pl.Ex.xs (Pl.Ex.trans hE1 hE2) Gs (by omega)
 have jX:=Pl.Xs.size Gs
 refine Pl.aj ?_
 have k2:=Un.xs u1 Gs (Pl.Cb.ex ak hE2) (by simp)
 repeat refine Pl.af ?_
 exact Pl.aV rfl rfl gQ Tryz.underlying26 rfl (by kernel_rfl) (⟨_,_,rfl,k2,aJ⟩)
theorem lH (w:World) (m n:Int) (hm : -4294967296<m∧m<4294967296) (hn : -4294967296<n∧n<4294967296) (h0:n≠0) :
  Calls Tryz.prog 57 #[.int .i64 m,.int .i64 n] w fun e w'=>∃ u,e = .returned u∧Qn w' u (Rat.divInt m n) 1 1∧Pl.Ex w w':=by
 refine Pl.aN (n:=16) (vs:=[.int .i64 m,.int .i64 n]) Tryz.func57 rfl (by kernel_rfl) (by simp) ?_
 repeat refine Pl.af ?_
 refine Pl.ah (by kernel_rfl) ?_
 refine Pl.bK (z:=.agg #[.bool false,.slice none 0 0,.slice none 0 0]) (by kernel_rfl) rfl rfl rfl rfl (fun Y hY=>trivial) ?_
 intro N1 w1 hE1 bT ak
 have dP:=Pl.Cb.lt ak
 have jC:=Pl.Ex.size hE1
 replace ak:Pl.Cb w1 N1 41 [.bool false,.slice none 0 0,.slice none 0 0]:=ak
 refine Pl.aj ?_
 repeat refine Pl.af ?_
 refine Pl.ah (by kernel_rfl) ?_
 refine Pl.aG trivial rfl ?_
 refine Pl.ay rfl rfl rfl rfl rfl (fun u X=>Pl.enters Tryz.func53 (by kernel_rfl) rfl u X) ?_
 refine Calls.mono (uG _ m (by omega) (by omega)) ?_
 rintro e w2 ⟨v1,rfl,hv1,hE2⟩
 obtain ⟨Aq1,cq1,rfl,uq1⟩:=hv1
 have jM:=Pl.Ex.size hE2
 refine ⟨_,rfl,trivial,?_⟩
 refine Pl.aG trivial rfl ?_
 refine Pl.ay rfl rfl rfl rfl rfl (fun u X=>Pl.enters Tryz.func53 (by kernel_rfl) rfl u X) ?_
 refine Calls.mono (uG _ n (by omega) (by omega)) ?_
 rintro e w3 ⟨v2,rfl,hv2,aJ⟩
 obtain ⟨Aq2,cq2,rfl,uq2⟩:=hv2
 have jX:=Pl.Ex.size aJ
 refine ⟨_,rfl,trivial,?_⟩
 refine Pl.ay rfl rfl rfl rfl rfl (fun u X=>Pl.enters Tryz.func97 (by kernel_rfl) rfl u X) ?_
 refine Calls.mono (jf _ _ _ m n (Zn.of (Un.below uq1 aJ)) (Zn.of uq2) 1 1 (Sz.lit (by omega) (by decide)) (Sz.lit (by omega) (by decide)) (by decide) (by decide) h0) ?_
 rintro e w4 ⟨v2,rfl,hv2,aP⟩
 obtain ⟨A3,c4,A5,c6,rfl,u7,u8,q9z,q9d⟩:=hv2
 have kY:=Pl.Ex.size aP
 refine ⟨_,rfl,trivial,?_⟩
 refine Pl.aG trivial rfl ?_
 refine Pl.bK (z:=.agg #[.bool false,.slice none 0 0,.slice none 0 0]) (by kernel_rfl) rfl rfl rfl rfl (fun Y hY=>trivial) ?_
 intro N10 w5 aW ad5 Ao
 have af4:=Pl.Cb.lt Ao
 have mI:=Pl.Ex.size aW
 replace Ao:Pl.Cb w5 N10 41 [.bool false,.slice none 0 0,.slice none 0 0]:=Ao
 refine Pl.bz (new:=[.bool (decide ((Rat.num (Rat.divInt m n))<0)),.slice A3 (limbs (Int.natAbs (Rat.num (Rat.divInt m n)))).length c4,.slice A5 (limbs (Rat.den (Rat.divInt m n))).length c6]) Ao (by kernel_rfl) rfl (by simp [Value.oneCell']) rfl rfl rfl rfl rfl rfl (fun Y hY=>trivial) ?_
 intro w6 jY MJ
 have bO:=Pl.Ex.xs aW jY (by omega)
 have rC:=Pl.Xs.size jY
 refine Pl.aG trivial rfl ?_
 refine Pl.aj ?_
 repeat refine Pl.af ?_
 refine Pl.ah (by kernel_rfl) ?_
 refine Pl.bg (part:=[.bool (decide ((Rat.num (Rat.divInt m n))<0)),.slice A3 (limbs (Int.natAbs (Rat.num (Rat.divInt m n)))).length c4,.slice A5 (limbs (Rat.den (Rat.divInt m n))).length c6]) MJ rfl Tryz.underlying41 rfl (by kernel_rfl) trivial rfl rfl rfl rfl rfl ?_
 refine Pl.bz (new:=[.bool (decide ((Rat.num (Rat.divInt m n))<0)),.slice A3 (limbs (Int.natAbs (Rat.num (Rat.divInt m n)))).length c4,.slice A5 (limbs (Rat.den (Rat.divInt m n))).length c6]) (Pl.Cb.ex ak (Pl.Ex.trans hE2 (Pl.Ex.trans aJ (Pl.Ex.trans aP bO)))) (by kernel_rfl) rfl (by simp [Value.oneCell']) rfl rfl rfl rfl rfl rfl (fun Y hY=>trivial) ?_
 intro w7 iM gQ
 have cB:=Pl.Ex.xs (Pl.Ex.trans hE1 (Pl.Ex.trans hE2 (Pl.Ex.trans aJ (Pl.Ex.trans aP bO)))) iM (by omega)
 have wm:=Pl.Xs.size iM
 have abt:=Pl.Cb.xs MJ iM (by simp;omega)
 refine Pl.aj ?_
 have k11:=Un.xs (Un.below u7 bO) iM (Pl.Cb.ex ak (Pl.Ex.trans hE2 (Pl.Ex.trans aJ (Pl.Ex.trans aP bO)))) (by simp)
 have k12:=Un.xs (Un.below u8 bO) iM (Pl.Cb.ex ak (Pl.Ex.trans hE2 (Pl.Ex.trans aJ (Pl.Ex.trans aP bO)))) (by simp)
 repeat refine Pl.af ?_
 exact Pl.aV rfl rfl gQ Tryz.underlying41 rfl (by kernel_rfl) (⟨_,rfl,(Qn.mk k11 k12 q9z q9d),cB⟩)
end Go.Proofs.YtdpmbgomcjnohaaGreatDoor
/- Contracts of dyadic numbers by facts alone. -/
namespace Go.Proofs.YtdpmbgomcjnohaaGreatDoor.Rf
open Go Go.RowKit Go.Proofs.YtdpmbgomcjnohaaGreatDoor.Pl
set_option linter.all false
set_option maxRecDepth 100000
set_option maxHeartbeats 8000000
theorem qg {w:World} {v:Value} {x:Rat} {L J:Nat} {lo hi n:Int} (h:Dn w v x L lo hi) (hh:hi+n≤32*(J:Int)):Sz (Rat.floor (x*2^n)) (L+J):=by
 obtain ⟨m,e,A,c,rfl,u,d⟩:=h
 exact NW d hh
theorem BG (w:World) (va vb:Value) {K J:Nat} (a b:Int) (ha:Zn w va a∧Sz a K) (hb:Zn w vb b∧Sz b J) (hK:K≤1000000) (hJ:J≤1000000):Calls Tryz.prog 43 #[va,vb] w fun e w'=>e = .returned (.bool (decide (a=b)))∧Ex w w':=Cu w va vb a b ha.1 hb.1 (Sz.le ha.2 hK) (Sz.le hb.2 hJ) _ rfl
theorem xJ {w:World} {f:Nat→Value} {m e:Int} (h:(iK m e).R w f) (hs:Sz m 65536):Calls Tryz.prog 13 #[.agg #[f 0,f 1,f 2]] w fun ev w'=>ev = .returned (.bool (decide ((m=0∧e=0∨m%2=1) ∧ -100000≤e∧e≤100000)))∧Ex w w':=by
 obtain ⟨h1,h2,⟨A,c,h3⟩,u⟩:=h
 rw [h3] at u
 rw [h1,h2,h3]
 exact xy w A c m e u hs
end Go.Proofs.YtdpmbgomcjnohaaGreatDoor.Rf
/- The laws: what the document fixes. -/
namespace Go.Proofs.YtdpmbgomcjnohaaGreatDoor
open Go.RowKit Rf
set_option linter.all false
set_option maxRecDepth 100000
set_option maxHeartbeats 8000000
theorem qM (w:World) (hg:Gt w) :
  Calls Tryz.prog 12 #[] w fun e w'=>e = .returned (.bool true)∧Pl.Ex w w':=by
 refine Rf.bQ (n:=193) [] [] [] Tryz.func12 rfl (by kernel_rfl) rfl rfl trivial ?_
 repeat refine Rf.aa ?_
 refine Rf.az (by kernel_rfl) ?_
 refine Rf.aD aK 0 rfl ?_
 refine Rf.aI ?_
 repeat refine Rf.aa ?_
 refine Rf.az (by kernel_rfl) ?_
 refine Rf.fA 0 _ _ rfl rfl rfl rfl rfl rfl (fun u X=>Pl.enters Tryz.func57 (by kernel_rfl) rfl u X) (fun α γ w h=>eZ 0 (lH _ 1 3 (by decide) (by decide) (by decide))) ?_
 refine Rf.fA 1 _ _ rfl rfl rfl rfl rfl rfl (fun u X=>Pl.enters Tryz.func39 (by kernel_rfl) rfl u X) (fun α γ w h=>mK 1 (fV _ (hg.ext h.ex) _ (Rat.divInt 1 3) (2:Int) 0 (by decide) 1 1 1 (h.r 0 rfl) (by decide) (by omega) (-2) 94 (by omega) (by omega) (by decide) (by decide))) ?_
 refine Rf.aD aK 0 rfl ?_
 refine Rf.aI ?_
 repeat refine Rf.aa ?_
 refine Rf.az (by kernel_rfl) ?_
 refine Rf.fA 2 _ _ rfl rfl rfl rfl rfl rfl (fun u X=>Pl.enters Tryz.func57 (by kernel_rfl) rfl u X) (fun α γ w h=>eZ 2 (lH _ 1 3 (by decide) (by decide) (by decide))) ?_
 refine Rf.fA 3 _ _ rfl rfl rfl rfl rfl rfl (fun u X=>Pl.enters Tryz.func39 (by kernel_rfl) rfl u X) (fun α γ w h=>mK 3 (fV _ (hg.ext h.ex) _ (Rat.divInt 1 3) (2:Int) 1 (by decide) 1 1 1 (h.r 2 rfl) (by decide) (by omega) (-2) 94 (by omega) (by omega) (by decide) (by decide))) ?_
 refine Rf.aD aK 1 rfl ?_
 refine Rf.aI ?_
 repeat refine Rf.aa ?_
 refine Rf.az (by kernel_rfl) ?_
 refine Rf.fA 4 _ _ rfl rfl rfl rfl rfl rfl (fun u X=>Pl.enters Tryz.func57 (by kernel_rfl) rfl u X) (fun α γ w h=>eZ 4 (lH _ 1 3 (by decide) (by decide) (by decide))) ?_
 refine Rf.fA 5 _ _ rfl rfl rfl rfl rfl rfl (fun u X=>Pl.enters Tryz.func39 (by kernel_rfl) rfl u X) (fun α γ w h=>mK 5 (fV _ (hg.ext h.ex) _ (Rat.divInt 1 3) (2:Int) 4 (by decide) 1 1 1 (h.r 4 rfl) (by decide) (by omega) (-2) 94 (by omega) (by omega) (by decide) (by decide))) ?_
 refine Rf.aD aK 2 rfl ?_
 refine Rf.aI ?_
 repeat refine Rf.aa ?_
 refine Rf.az (by kernel_rfl) ?_
 refine Rf.fA 6 _ _ rfl rfl rfl rfl rfl rfl (fun u X=>Pl.enters Tryz.func57 (by kernel_rfl) rfl u X) (fun α γ w h=>eZ 6 (lH _ 3 8 (by decide) (by decide) (by decide))) ?_
 refine Rf.fA 7 _ _ rfl rfl rfl rfl rfl rfl (fun u X=>Pl.enters Tryz.func39 (by kernel_rfl) rfl u X) (fun α γ w h=>mK 7 (fV _ (hg.ext h.ex) _ (Rat.divInt 3 8) (2:Int) 4 (by decide) 1 1 1 (h.r 6 rfl) (by decide) (by omega) (-2) 94 (by omega) (by omega) (by decide) (by decide))) ?_
 refine Rf.aD aK 3 rfl ?_
 refine Rf.aI ?_
 repeat refine Rf.aa ?_
 refine Rf.az (by kernel_rfl) ?_
 refine Rf.fA 8 _ _ rfl rfl rfl rfl rfl rfl (fun u X=>Pl.enters Tryz.func57 (by kernel_rfl) rfl u X) (fun α γ w h=>eZ 8 (lH _ 5 8 (by decide) (by decide) (by decide))) ?_
 refine Rf.fA 9 _ _ rfl rfl rfl rfl rfl rfl (fun u X=>Pl.enters Tryz.func39 (by kernel_rfl) rfl u X) (fun α γ w h=>mK 9 (fV _ (hg.ext h.ex) _ (Rat.divInt 5 8) (2:Int) 4 (by decide) 1 1 1 (h.r 8 rfl) (by decide) (by omega) (-2) 94 (by omega) (by omega) (by decide) (by decide))) ?_
 refine Rf.aD aK 4 rfl ?_
 refine Rf.aI ?_
 repeat refine Rf.aa ?_
 refine Rf.az (by kernel_rfl) ?_
 refine Rf.fA 10 _ _ rfl rfl rfl rfl rfl rfl (fun u X=>Pl.enters Tryz.func57 (by kernel_rfl) rfl u X) (fun α γ w h=>eZ 10 (lH _ (-1) 3 (by decide) (by decide) (by decide))) ?_
 refine Rf.fA 11 _ _ rfl rfl rfl rfl rfl rfl (fun u X=>Pl.enters Tryz.func39 (by kernel_rfl) rfl u X) (fun α γ w h=>mK 11 (fV _ (hg.ext h.ex) _ (Rat.divInt (-1) 3) (2:Int) 2 (by decide) 1 1 1 (h.r 10 rfl) (by decide) (by omega) (-2) 94 (by omega) (by omega) (by decide) (by decide))) ?_
 refine Rf.aD aK 5 rfl ?_
 refine Rf.aI ?_
 repeat refine Rf.aa ?_
 refine Rf.az (by kernel_rfl) ?_
 refine Rf.fA 12 _ _ rfl rfl rfl rfl rfl rfl (fun u X=>Pl.enters Tryz.func57 (by kernel_rfl) rfl u X) (fun α γ w h=>eZ 12 (lH _ (-1) 3 (by decide) (by decide) (by decide))) ?_
 refine Rf.fA 13 _ _ rfl rfl rfl rfl rfl rfl (fun u X=>Pl.enters Tryz.func39 (by kernel_rfl) rfl u X) (fun α γ w h=>mK 13 (fV _ (hg.ext h.ex) _ (Rat.divInt (-1) 3) (2:Int) 3 (by decide) 1 1 1 (h.r 12 rfl) (by decide) (by omega) (-2) 94 (by omega) (by omega) (by decide) (by decide))) ?_
 refine Rf.aD aK 6 rfl ?_
 refine Rf.aI ?_
 repeat refine Rf.aa ?_
 refine Rf.az (by kernel_rfl) ?_
 refine Rf.fA 14 _ _ rfl rfl rfl rfl rfl rfl (fun u X=>Pl.enters Tryz.func57 (by kernel_rfl) rfl u X) (fun α γ w h=>eZ 14 (lH _ 1 3 (by decide) (by decide) (by decide))) ?_
 refine Rf.fA 15 _ _ rfl rfl rfl rfl rfl rfl (fun u X=>Pl.enters Tryz.func39 (by kernel_rfl) rfl u X) (fun α γ w h=>Nu (.t [.a [.v (.bool false),.v (.slice none 0 0),.v (.int .i64 0)],.v (.int .i64 1)]) 15 (fun _ _=>rfl) (He _ _ (Rat.divInt 1 3) (2:Int) 5 _ _ (h.r 14 rfl) (by decide))) ?_
 refine Rf.aD aK 7 rfl ?_
 refine Rf.aI ?_
 repeat refine Rf.aa ?_
 refine Rf.az (by kernel_rfl) ?_
 refine Rf.fA 16 (iK 7 (-3)) (.a [.c 16 0,.c 16 1,.c 16 2]) rfl rfl rfl rfl rfl rfl (fun u X=>Pl.enters Tryz.func58 (by kernel_rfl) rfl u X) (fun α γ w h=>jc 16 (dF _ 7 (-3) (by decide) (by decide))) ?_
 refine Rf.fA 17 _ _ rfl rfl rfl rfl rfl rfl (fun u X=>Pl.enters Tryz.func41 (by kernel_rfl) rfl u X) (fun α γ w h=>mK 17 (wW _ (hg.ext h.ex) _ (Dy.dv 7 (-3)) (1:Int) 0 (by decide) 1 1 _ _ (iK.dn (h.r 16 rfl) (oD (.inr (by decide)) (by decide))) (by decide) (by omega) (by decide) (by decide) (by omega) (-3) 63 (by omega) (by omega) (by decide) (by decide) (by decide) (by decide))) ?_
 refine Rf.aD aK 8 rfl ?_
 refine Rf.aI ?_
 repeat refine Rf.aa ?_
 refine Rf.az (by kernel_rfl) ?_
 refine Rf.fA 18 (iK 7 (-3)) (.a [.c 18 0,.c 18 1,.c 18 2]) rfl rfl rfl rfl rfl rfl (fun u X=>Pl.enters Tryz.func58 (by kernel_rfl) rfl u X) (fun α γ w h=>jc 18 (dF _ 7 (-3) (by decide) (by decide))) ?_
 refine Rf.fA 19 _ _ rfl rfl rfl rfl rfl rfl (fun u X=>Pl.enters Tryz.func41 (by kernel_rfl) rfl u X) (fun α γ w h=>Nu (.t [.a [.v (.bool false),.v (.slice none 0 0),.v (.int .i64 0)],.v (.int .i64 1)]) 19 (fun _ _=>rfl) (BI _ _ (Dy.dv 7 (-3)) (1:Int) (-1) _ _ _ (iK.dn (h.r 18 rfl) (oD (.inr (by decide)) (by decide))) (by decide))) ?_
 refine Rf.aD aK 9 rfl ?_
 refine Rf.aI ?_
 repeat refine Rf.aa ?_
 refine Rf.bM none fo ?_
 refine Rf.aB 20 _ _ rfl rfl rfl rfl rfl rfl rfl rfl rfl (fun u X=>Pl.enters Tryz.func53 (by kernel_rfl) rfl u X) (fun α γ w h=>dx 20 (uG _ 12 (by decide) (by decide))) ?_
 refine Rf.aB 21 _ _ rfl rfl rfl rfl rfl rfl rfl rfl rfl (fun u X=>Pl.enters Tryz.func18 (by kernel_rfl) rfl u X) (fun α γ w h=>qc 21 (dD _ (hg.ext h.ex) _ 12 (-1) (h.r 20 rfl) 1 (Sz.lit (K:=1) (by decide) (by decide)) (by decide) (by omega) (-1) 31 (by omega) (by omega) (by decide) (by decide))) ?_
 refine Rf.aB 22 (iK 3 1) (.a [.c 22 0,.c 22 1,.c 22 2]) rfl rfl rfl rfl rfl rfl rfl rfl rfl (fun u X=>Pl.enters Tryz.func58 (by kernel_rfl) rfl u X) (fun α γ w h=>jc 22 (dF _ 3 1 (by decide) (by decide))) ?_
 refine Rf.aB 23 (TR) (.v (.bool true)) rfl rfl rfl rfl rfl rfl rfl rfl rfl (fun u X=>Pl.enters Tryz.func17 (by kernel_rfl) rfl u X) (fun α γ w h=>lQ 23 ((by decide +kernel):(Dy.dv 12 (-1))=(Dy.dv 3 1)) (aS _ _ _ (Dy.dv 12 (-1)) (Dy.dv 3 1) _ _ _ _ _ _ (h.r 21 rfl) (iK.dn (h.r 22 rfl) (oD (.inr (by decide)) (by decide))) (by decide) (by decide))) ?_
 refine Rf.aO aK 123 10 rfl ?_
 refine Rf.aB 24 _ _ rfl rfl rfl rfl rfl rfl rfl rfl rfl (fun u X=>Pl.enters Tryz.func53 (by kernel_rfl) rfl u X) (fun α γ w h=>dx 24 (uG _ 0 (by decide) (by decide))) ?_
 refine Rf.aB 25 _ _ rfl rfl rfl rfl rfl rfl rfl rfl rfl (fun u X=>Pl.enters Tryz.func18 (by kernel_rfl) rfl u X) (fun α γ w h=>qc 25 (dD _ (hg.ext h.ex) _ 0 7 (h.r 24 rfl) 1 (Sz.lit (K:=1) (by decide) (by decide)) (by decide) (by omega) (0) 39 (by omega) (by omega) (by decide) (by decide))) ?_
 refine Rf.ad6 (.a [.v (.bool false),.v (.slice none 0 0),.v (.int .i64 0)]) [] rfl rfl rfl rfl rfl (fun _ _=>rfl) (fun α γ X=>by kernel_rfl) ?_
 refine Rf.aB 26 (TR) (.v (.bool true)) rfl rfl rfl rfl rfl rfl rfl rfl rfl (fun u X=>Pl.enters Tryz.func17 (by kernel_rfl) rfl u X) (fun α γ w h=>lQ 26 ((by decide +kernel):(Dy.dv 0 7)=(0:Rat)) (aS _ _ _ (Dy.dv 0 7) (0:Rat) _ _ _ _ _ _ (h.r 25 rfl) (Dn.zero _ 0 (Int.le_refl 0) (Int.le_refl 0)) (by decide) (by decide))) ?_
 refine Rf.aO aK 123 10 rfl ?_
 refine Rf.aB 27 (iK 3 1) (.a [.c 27 0,.c 27 1,.c 27 2]) rfl rfl rfl rfl rfl rfl rfl rfl rfl (fun u X=>Pl.enters Tryz.func58 (by kernel_rfl) rfl u X) (fun α γ w h=>jc 27 (dF _ 3 1 (by decide) (by decide))) ?_
 refine Rf.aB 28 (TR) (.v (.bool true)) rfl rfl rfl rfl rfl rfl rfl rfl rfl (fun u X=>Pl.enters Tryz.func13 (by kernel_rfl) rfl u X) (fun α γ w h=>lQ 28 (by decide) (xJ (h.r 27 rfl) (Sz.lit (by decide) (by decide)))) ?_
 refine Rf.aO aK 123 10 rfl ?_
 refine Rf.aB 29 (iK 2 0) (.a [.c 29 0,.c 29 1,.c 29 2]) rfl rfl rfl rfl rfl rfl rfl rfl rfl (fun u X=>Pl.enters Tryz.func58 (by kernel_rfl) rfl u X) (fun α γ w h=>jc 29 (dF _ 2 0 (by decide) (by decide))) ?_
 refine Rf.aB 30 (TR) (.v (.bool false)) rfl rfl rfl rfl rfl rfl rfl rfl rfl (fun u X=>Pl.enters Tryz.func13 (by kernel_rfl) rfl u X) (fun α γ w h=>TV 30 (by decide) (xJ (h.r 29 rfl) (Sz.lit (by decide) (by decide)))) ?_
 refine Rf.oI (.bool true) rfl rfl rfl rfl rfl rfl rfl (fun X=>pI _ X) ?_
 refine Rf.aO aK 123 10 rfl ?_
 refine Rf.aB 31 (iK 0 1) (.a [.c 31 0,.c 31 1,.c 31 2]) rfl rfl rfl rfl rfl rfl rfl rfl rfl (fun u X=>Pl.enters Tryz.func58 (by kernel_rfl) rfl u X) (fun α γ w h=>jc 31 (dF _ 0 1 (by decide) (by decide))) ?_
 refine Rf.aB 32 (TR) (.v (.bool false)) rfl rfl rfl rfl rfl rfl rfl rfl rfl (fun u X=>Pl.enters Tryz.func13 (by kernel_rfl) rfl u X) (fun α γ w h=>TV 32 (by decide) (xJ (h.r 31 rfl) (Sz.lit (by decide) (by decide)))) ?_
 refine Rf.oI (.bool true) rfl rfl rfl rfl rfl rfl rfl (fun X=>pI _ X) ?_
 refine Rf.aO aK 123 10 rfl ?_
 refine Rf.aB 33 (iK 1 100001) (.a [.c 33 0,.c 33 1,.c 33 2]) rfl rfl rfl rfl rfl rfl rfl rfl rfl (fun u X=>Pl.enters Tryz.func58 (by kernel_rfl) rfl u X) (fun α γ w h=>jc 33 (dF _ 1 100001 (by decide) (by decide))) ?_
 refine Rf.aB 34 (TR) (.v (.bool false)) rfl rfl rfl rfl rfl rfl rfl rfl rfl (fun u X=>Pl.enters Tryz.func13 (by kernel_rfl) rfl u X) (fun α γ w h=>TV 34 (by decide) (xJ (h.r 33 rfl) (Sz.lit (by decide) (by decide)))) ?_
 refine Rf.oI (.bool true) rfl rfl rfl rfl rfl rfl rfl (fun X=>pI _ X) ?_
 refine Rf.aO aK 123 10 rfl ?_
 refine Rf.aB 35 (iK 1 (-2)) (.a [.c 35 0,.c 35 1,.c 35 2]) rfl rfl rfl rfl rfl rfl rfl rfl rfl (fun u X=>Pl.enters Tryz.func58 (by kernel_rfl) rfl u X) (fun α γ w h=>jc 35 (dF _ 1 (-2) (by decide) (by decide))) ?_
 refine Rf.aB 36 (TR) (.v (.bool true)) rfl rfl rfl rfl rfl rfl rfl rfl rfl (fun u X=>Pl.enters Tryz.func17 (by kernel_rfl) rfl u X) (fun α γ w h=>lQ 36 ((by decide +kernel):(Dy.cut 0 (Rat.divInt 1 3) (2:Int))=(Dy.dv 1 (-2))) (aS _ _ _ (Dy.cut 0 (Rat.divInt 1 3) (2:Int)) (Dy.dv 1 (-2)) _ _ _ _ _ _ (h.r 1 rfl) (iK.dn (h.r 35 rfl) (oD (.inr (by decide)) (by decide))) (by decide) (by decide))) ?_
 refine Rf.aO aK 123 10 rfl ?_
 refine Rf.vk (.v (.bool true)) rfl rfl rfl rfl rfl rfl rfl rfl rfl rfl (fun α γ w h=>(fun X=>ed (by decide) X) w) ?_
 refine Rf.aO aK 123 10 rfl ?_
 refine Rf.aB 37 (iK 1 (-1)) (.a [.c 37 0,.c 37 1,.c 37 2]) rfl rfl rfl rfl rfl rfl rfl rfl rfl (fun u X=>Pl.enters Tryz.func58 (by kernel_rfl) rfl u X) (fun α γ w h=>jc 37 (dF _ 1 (-1) (by decide) (by decide))) ?_
 refine Rf.aB 38 (TR) (.v (.bool true)) rfl rfl rfl rfl rfl rfl rfl rfl rfl (fun u X=>Pl.enters Tryz.func17 (by kernel_rfl) rfl u X) (fun α γ w h=>lQ 38 ((by decide +kernel):(Dy.cut 1 (Rat.divInt 1 3) (2:Int))=(Dy.dv 1 (-1))) (aS _ _ _ (Dy.cut 1 (Rat.divInt 1 3) (2:Int)) (Dy.dv 1 (-1)) _ _ _ _ _ _ (h.r 3 rfl) (iK.dn (h.r 37 rfl) (oD (.inr (by decide)) (by decide))) (by decide) (by decide))) ?_
 refine Rf.aO aK 123 10 rfl ?_
 refine Rf.aB 39 (iK 1 (-2)) (.a [.c 39 0,.c 39 1,.c 39 2]) rfl rfl rfl rfl rfl rfl rfl rfl rfl (fun u X=>Pl.enters Tryz.func58 (by kernel_rfl) rfl u X) (fun α γ w h=>jc 39 (dF _ 1 (-2) (by decide) (by decide))) ?_
 refine Rf.aB 40 (TR) (.v (.bool true)) rfl rfl rfl rfl rfl rfl rfl rfl rfl (fun u X=>Pl.enters Tryz.func17 (by kernel_rfl) rfl u X) (fun α γ w h=>lQ 40 ((by decide +kernel):(Dy.cut 4 (Rat.divInt 1 3) (2:Int))=(Dy.dv 1 (-2))) (aS _ _ _ (Dy.cut 4 (Rat.divInt 1 3) (2:Int)) (Dy.dv 1 (-2)) _ _ _ _ _ _ (h.r 5 rfl) (iK.dn (h.r 39 rfl) (oD (.inr (by decide)) (by decide))) (by decide) (by decide))) ?_
 refine Rf.aO aK 123 10 rfl ?_
 refine Rf.aB 41 (iK 1 (-1)) (.a [.c 41 0,.c 41 1,.c 41 2]) rfl rfl rfl rfl rfl rfl rfl rfl rfl (fun u X=>Pl.enters Tryz.func58 (by kernel_rfl) rfl u X) (fun α γ w h=>jc 41 (dF _ 1 (-1) (by decide) (by decide))) ?_
 refine Rf.aB 42 (TR) (.v (.bool true)) rfl rfl rfl rfl rfl rfl rfl rfl rfl (fun u X=>Pl.enters Tryz.func17 (by kernel_rfl) rfl u X) (fun α γ w h=>lQ 42 ((by decide +kernel):(Dy.cut 4 (Rat.divInt 3 8) (2:Int))=(Dy.dv 1 (-1))) (aS _ _ _ (Dy.cut 4 (Rat.divInt 3 8) (2:Int)) (Dy.dv 1 (-1)) _ _ _ _ _ _ (h.r 7 rfl) (iK.dn (h.r 41 rfl) (oD (.inr (by decide)) (by decide))) (by decide) (by decide))) ?_
 refine Rf.aO aK 123 10 rfl ?_
 refine Rf.aB 43 (iK 1 (-1)) (.a [.c 43 0,.c 43 1,.c 43 2]) rfl rfl rfl rfl rfl rfl rfl rfl rfl (fun u X=>Pl.enters Tryz.func58 (by kernel_rfl) rfl u X) (fun α γ w h=>jc 43 (dF _ 1 (-1) (by decide) (by decide))) ?_
 refine Rf.aB 44 (TR) (.v (.bool true)) rfl rfl rfl rfl rfl rfl rfl rfl rfl (fun u X=>Pl.enters Tryz.func17 (by kernel_rfl) rfl u X) (fun α γ w h=>lQ 44 ((by decide +kernel):(Dy.cut 4 (Rat.divInt 5 8) (2:Int))=(Dy.dv 1 (-1))) (aS _ _ _ (Dy.cut 4 (Rat.divInt 5 8) (2:Int)) (Dy.dv 1 (-1)) _ _ _ _ _ _ (h.r 9 rfl) (iK.dn (h.r 43 rfl) (oD (.inr (by decide)) (by decide))) (by decide) (by decide))) ?_
 refine Rf.aO aK 123 10 rfl ?_
 refine Rf.aB 45 (iK (-1) (-2)) (.a [.c 45 0,.c 45 1,.c 45 2]) rfl rfl rfl rfl rfl rfl rfl rfl rfl (fun u X=>Pl.enters Tryz.func58 (by kernel_rfl) rfl u X) (fun α γ w h=>jc 45 (dF _ (-1) (-2) (by decide) (by decide))) ?_
 refine Rf.aB 46 (TR) (.v (.bool true)) rfl rfl rfl rfl rfl rfl rfl rfl rfl (fun u X=>Pl.enters Tryz.func17 (by kernel_rfl) rfl u X) (fun α γ w h=>lQ 46 ((by decide +kernel):(Dy.cut 2 (Rat.divInt (-1) 3) (2:Int))=(Dy.dv (-1) (-2))) (aS _ _ _ (Dy.cut 2 (Rat.divInt (-1) 3) (2:Int)) (Dy.dv (-1) (-2)) _ _ _ _ _ _ (h.r 11 rfl) (iK.dn (h.r 45 rfl) (oD (.inr (by decide)) (by decide))) (by decide) (by decide))) ?_
 refine Rf.aO aK 123 10 rfl ?_
 refine Rf.aB 47 (iK (-1) (-1)) (.a [.c 47 0,.c 47 1,.c 47 2]) rfl rfl rfl rfl rfl rfl rfl rfl rfl (fun u X=>Pl.enters Tryz.func58 (by kernel_rfl) rfl u X) (fun α γ w h=>jc 47 (dF _ (-1) (-1) (by decide) (by decide))) ?_
 refine Rf.aB 48 (TR) (.v (.bool true)) rfl rfl rfl rfl rfl rfl rfl rfl rfl (fun u X=>Pl.enters Tryz.func17 (by kernel_rfl) rfl u X) (fun α γ w h=>lQ 48 ((by decide +kernel):(Dy.cut 3 (Rat.divInt (-1) 3) (2:Int))=(Dy.dv (-1) (-1))) (aS _ _ _ (Dy.cut 3 (Rat.divInt (-1) 3) (2:Int)) (Dy.dv (-1) (-1)) _ _ _ _ _ _ (h.r 13 rfl) (iK.dn (h.r 47 rfl) (oD (.inr (by decide)) (by decide))) (by decide) (by decide))) ?_
 refine Rf.aO aK 123 10 rfl ?_
 refine Rf.vk (.v (.bool true)) rfl rfl rfl rfl rfl rfl rfl rfl rfl rfl (fun α γ w h=>(fun X=>ed (by decide) X) w) ?_
 refine Rf.aO aK 123 10 rfl ?_
 refine Rf.aB 49 (iK 1 (-1)) (.a [.c 49 0,.c 49 1,.c 49 2]) rfl rfl rfl rfl rfl rfl rfl rfl rfl (fun u X=>Pl.enters Tryz.func58 (by kernel_rfl) rfl u X) (fun α γ w h=>jc 49 (dF _ 1 (-1) (by decide) (by decide))) ?_
 refine Rf.aB 50 (TR) (.v (.bool true)) rfl rfl rfl rfl rfl rfl rfl rfl rfl (fun u X=>Pl.enters Tryz.func17 (by kernel_rfl) rfl u X) (fun α γ w h=>lQ 50 ((by decide +kernel):(Dy.cut 0 (Dy.dv 7 (-3)) (1:Int))=(Dy.dv 1 (-1))) (aS _ _ _ (Dy.cut 0 (Dy.dv 7 (-3)) (1:Int)) (Dy.dv 1 (-1)) _ _ _ _ _ _ (h.r 17 rfl) (iK.dn (h.r 49 rfl) (oD (.inr (by decide)) (by decide))) (by decide) (by decide))) ?_
 refine Rf.aO aK 123 10 rfl ?_
 refine Rf.vk (.v (.bool true)) rfl rfl rfl rfl rfl rfl rfl rfl rfl rfl (fun α γ w h=>(fun X=>ed (by decide) X) w) ?_
 refine Rf.aO aK 123 10 rfl ?_
 refine Rf.vk (.v (.bool true)) rfl rfl rfl rfl rfl rfl rfl rfl rfl rfl (fun α γ w h=>(fun X=>ed (by decide) X) w) ?_
 refine Rf.aO aK 123 10 rfl ?_
 refine Rf.aB 51 (iK (-3) (-1)) (.a [.c 51 0,.c 51 1,.c 51 2]) rfl rfl rfl rfl rfl rfl rfl rfl rfl (fun u X=>Pl.enters Tryz.func58 (by kernel_rfl) rfl u X) (fun α γ w h=>jc 51 (dF _ (-3) (-1) (by decide) (by decide))) ?_
 refine Rf.aB 52 (YA (Rat.floor ((Dy.dv (-3) (-1))*2^(0:Int))) 1) (.a [.c 52 0,.c 52 1]) rfl rfl rfl rfl rfl rfl rfl rfl rfl (fun u X=>Pl.enters Tryz.func44 (by kernel_rfl) rfl u X) (fun α γ w h=>G9 52 (qg (J:=0) (iK.dn (h.r 51 rfl) (oD (.inr (by decide)) (by decide))) (by omega)) (pK _ _ (Dy.dv (-3) (-1)) (0:Int) _ _ _ (iK.dn (h.r 51 rfl) (oD (.inr (by decide)) (by decide))) (by decide) (by decide) (by decide) (by omega))) ?_
 refine Rf.aB 53 _ _ rfl rfl rfl rfl rfl rfl rfl rfl rfl (fun u X=>Pl.enters Tryz.func53 (by kernel_rfl) rfl u X) (fun α γ w h=>dx 53 (uG _ (-2) (by decide) (by decide))) ?_
 refine Rf.aB 54 (TR) (.v (.bool true)) rfl rfl rfl rfl rfl rfl rfl rfl rfl (fun u X=>Pl.enters Tryz.func43 (by kernel_rfl) rfl u X) (fun α γ w h=>lQ 54 ((by decide +kernel):(Rat.floor ((Dy.dv (-3) (-1))*2^(0:Int)))=(-2)) (BG _ _ _ (Rat.floor ((Dy.dv (-3) (-1))*2^(0:Int))) (-2) (h.r 52 rfl) ⟨(h.r 53 rfl),(Sz.lit (K:=1) (by decide) (by decide))⟩ (by decide) (by decide))) ?_
 refine Rf.aO aK 123 10 rfl ?_
 refine Rf.aB 55 (iK 1 (-1)) (.a [.c 55 0,.c 55 1,.c 55 2]) rfl rfl rfl rfl rfl rfl rfl rfl rfl (fun u X=>Pl.enters Tryz.func58 (by kernel_rfl) rfl u X) (fun α γ w h=>jc 55 (dF _ 1 (-1) (by decide) (by decide))) ?_
 refine Rf.aB 56 (iK 1 (-1)) (.a [.c 56 0,.c 56 1,.c 56 2]) rfl rfl rfl rfl rfl rfl rfl rfl rfl (fun u X=>Pl.enters Tryz.func58 (by kernel_rfl) rfl u X) (fun α γ w h=>jc 56 (dF _ 1 (-1) (by decide) (by decide))) ?_
 refine Rf.aB 57 _ _ rfl rfl rfl rfl rfl rfl rfl rfl rfl (fun u X=>Pl.enters Tryz.func26 (by kernel_rfl) rfl u X) (fun α γ w h=>qc 57 (qO _ (hg.ext h.ex) _ _ (Dy.dv 1 (-1)) (Dy.dv 1 (-1)) 1 1 (-1) 0 (Dn.le (iK.dn (h.r 55 rfl) (oD (.inr (by decide)) (by decide))) (by decide) (by decide) (by decide)) (Dn.le (iK.dn (h.r 56 rfl) (oD (.inr (by decide)) (by decide))) (by decide) (by decide) (by decide)) (by decide) (by decide) (by decide) (by decide) (-2) 96 (by decide) (by decide) (by decide) (by decide))) ?_
 refine Rf.aB 58 (iK 1 0) (.a [.c 58 0,.c 58 1,.c 58 2]) rfl rfl rfl rfl rfl rfl rfl rfl rfl (fun u X=>Pl.enters Tryz.func58 (by kernel_rfl) rfl u X) (fun α γ w h=>jc 58 (dF _ 1 0 (by decide) (by decide))) ?_
 refine Rf.aB 59 (TR) (.v (.bool true)) rfl rfl rfl rfl rfl rfl rfl rfl rfl (fun u X=>Pl.enters Tryz.func17 (by kernel_rfl) rfl u X) (fun α γ w h=>lQ 59 ((by decide +kernel):((Dy.dv 1 (-1))+(Dy.dv 1 (-1)))=(Dy.dv 1 0)) (aS _ _ _ ((Dy.dv 1 (-1))+(Dy.dv 1 (-1))) (Dy.dv 1 0) _ _ _ _ _ _ (h.r 57 rfl) (iK.dn (h.r 58 rfl) (oD (.inr (by decide)) (by decide))) (by decide) (by decide))) ?_
 refine Rf.aO aK 123 10 rfl ?_
 refine Rf.aB 60 (iK 1 0) (.a [.c 60 0,.c 60 1,.c 60 2]) rfl rfl rfl rfl rfl rfl rfl rfl rfl (fun u X=>Pl.enters Tryz.func58 (by kernel_rfl) rfl u X) (fun α γ w h=>jc 60 (dF _ 1 0 (by decide) (by decide))) ?_
 refine Rf.aB 61 (iK 3 0) (.a [.c 61 0,.c 61 1,.c 61 2]) rfl rfl rfl rfl rfl rfl rfl rfl rfl (fun u X=>Pl.enters Tryz.func58 (by kernel_rfl) rfl u X) (fun α γ w h=>jc 61 (dF _ 3 0 (by decide) (by decide))) ?_
 refine Rf.aB 62 _ _ rfl rfl rfl rfl rfl rfl rfl rfl rfl (fun u X=>Pl.enters Tryz.func32 (by kernel_rfl) rfl u X) (fun α γ w h=>qc 62 (vM _ (hg.ext h.ex) _ _ (Dy.dv 1 0) (Dy.dv 3 0) 1 0 (0) 0 (Dn.le (iK.dn (h.r 60 rfl) (oD (.inr (by decide)) (by decide))) (by decide) (by decide) (by decide)) (Dn.le (iK.dn (h.r 61 rfl) (oD (.inr (by decide)) (by decide))) (by decide) (by decide) (by decide)) (by decide) (by decide) (by decide) (by decide) (-1) 64 (by decide) (by decide) (by decide) (by decide))) ?_
 refine Rf.aB 63 (iK 1 1) (.a [.c 63 0,.c 63 1,.c 63 2]) rfl rfl rfl rfl rfl rfl rfl rfl rfl (fun u X=>Pl.enters Tryz.func58 (by kernel_rfl) rfl u X) (fun α γ w h=>jc 63 (dF _ 1 1 (by decide) (by decide))) ?_
 refine Rf.aB 64 (TR) (.v (.bool true)) rfl rfl rfl rfl rfl rfl rfl rfl rfl (fun u X=>Pl.enters Tryz.func17 (by kernel_rfl) rfl u X) (fun α γ w h=>lQ 64 ((by decide +kernel):(((Dy.dv 1 0)+(Dy.dv 3 0))/2)=(Dy.dv 1 1)) (aS _ _ _ (((Dy.dv 1 0)+(Dy.dv 3 0))/2) (Dy.dv 1 1) _ _ _ _ _ _ (h.r 62 rfl) (iK.dn (h.r 63 rfl) (oD (.inr (by decide)) (by decide))) (by decide) (by decide))) ?_
 refine Rf.aO aK 123 10 rfl ?_
 refine Rf.aB 65 (iK 1 (-1)) (.a [.c 65 0,.c 65 1,.c 65 2]) rfl rfl rfl rfl rfl rfl rfl rfl rfl (fun u X=>Pl.enters Tryz.func58 (by kernel_rfl) rfl u X) (fun α γ w h=>jc 65 (dF _ 1 (-1) (by decide) (by decide))) ?_
 refine Rf.aB 66 (iK 1 (-2)) (.a [.c 66 0,.c 66 1,.c 66 2]) rfl rfl rfl rfl rfl rfl rfl rfl rfl (fun u X=>Pl.enters Tryz.func58 (by kernel_rfl) rfl u X) (fun α γ w h=>jc 66 (dF _ 1 (-2) (by decide) (by decide))) ?_
 refine Rf.aB 67 _ _ rfl rfl rfl rfl rfl rfl rfl rfl rfl (fun u X=>Pl.enters Tryz.func20 (by kernel_rfl) rfl u X) (fun α γ w h=>nZ 67 (vI _ (hg.ext h.ex) _ _ (Dy.dv 1 (-1)) (Dy.dv 1 (-2)) 1 1 (-2) 0 (Dn.le (iK.dn (h.r 65 rfl) (oD (.inr (by decide)) (by decide))) (by decide) (by decide) (by decide)) (Dn.le (iK.dn (h.r 66 rfl) (oD (.inr (by decide)) (by decide))) (by decide) (by decide) (by decide)) (by decide) (by decide) (by decide) (by decide) (-3) 96 (by decide) (by decide) (by decide) (by decide))) ?_
 refine Rf.vk (.v (.bool true)) rfl rfl rfl rfl rfl rfl rfl rfl rfl rfl (fun α γ w h=>RF (h.r 67 rfl) (fun k hk=>by have h1:=hk.1;have h2:=hk.2.1;have h3:=hk.2.2.2.2.2 (by decide +kernel);omega)) ?_
 refine Rf.aO aK 123 10 rfl ?_
 refine Rf.aB 68 (iK (-3) (-2)) (.a [.c 68 0,.c 68 1,.c 68 2]) rfl rfl rfl rfl rfl rfl rfl rfl rfl (fun u X=>Pl.enters Tryz.func58 (by kernel_rfl) rfl u X) (fun α γ w h=>jc 68 (dF _ (-3) (-2) (by decide) (by decide))) ?_
 refine Rf.aB 69 _ _ rfl rfl rfl rfl rfl rfl rfl rfl rfl (fun u X=>Pl.enters Tryz.func35 (by kernel_rfl) rfl u X) (fun α γ w h=>eZ 69 (vQ _ _ (Dy.dv (-3) (-2)) 1 0 1 _ _ (iK.dn (h.r 68 rfl) (oD (.inr (by decide)) (by decide))) (by decide) (by decide) (by decide) (by decide) (by decide) (by decide))) ?_
 refine Rf.aB 70 _ _ rfl rfl rfl rfl rfl rfl rfl rfl rfl (fun u X=>Pl.enters Tryz.func57 (by kernel_rfl) rfl u X) (fun α γ w h=>eZ 70 (lH _ (-3) 4 (by decide) (by decide) (by decide))) ?_
 refine Rf.aB 71 (TR) (.v (.bool true)) rfl rfl rfl rfl rfl rfl rfl rfl rfl (fun u X=>Pl.enters Tryz.func34 (by kernel_rfl) rfl u X) (fun α γ w h=>lQ 71 ((by decide +kernel):(Dy.dv (-3) (-2))=(Rat.divInt (-3) 4)) (sQ _ _ _ (Dy.dv (-3) (-2)) (Rat.divInt (-3) 4) 1 1 1 1 (h.r 69 rfl) (h.r 70 rfl) (by omega) (by omega) (by omega) (by omega))) ?_
 refine Rf.aO aK 123 10 rfl ?_
 refine Rf.aB 72 (iK (-1) 5) (.a [.c 72 0,.c 72 1,.c 72 2]) rfl rfl rfl rfl rfl rfl rfl rfl rfl (fun u X=>Pl.enters Tryz.func58 (by kernel_rfl) rfl u X) (fun α γ w h=>jc 72 (dF _ (-1) 5 (by decide) (by decide))) ?_
 refine Rf.aB 73 _ _ rfl rfl rfl rfl rfl rfl rfl rfl rfl (fun u X=>Pl.enters Tryz.func22 (by kernel_rfl) rfl u X) (fun α γ w h=>nZ 73 (iY _ _ (Dy.dv (-1) 5) _ _ _ (iK.dn (h.r 72 rfl) (oD (.inr (by decide)) (by decide))))) ?_
 refine Rf.vk (.v (.bool true)) rfl rfl rfl rfl rfl rfl rfl rfl rfl rfl (fun α γ w h=>RF (h.r 73 rfl) (fun k hk=>by have h1:=hk.1;have h2:=hk.2.1;have h3:=hk.2.2.1.2 (by decide +kernel);omega)) ?_
 refine Rf.aO aK 123 10 rfl ?_
 refine Rf.dQ (by kernel_rfl) ?_
 refine Rf.bN [0] [] [] rfl rfl rfl ?_
 repeat refine Rf.aa ?_
 exact Rf.bI aK (fun _ _ h=>h) rfl rfl (fun α γ w h=>⟨rfl,h.ex⟩)
end Go.Proofs.YtdpmbgomcjnohaaGreatDoor
