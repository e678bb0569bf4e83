/- Round. -/
import Derived.Test.YtgcieamfidoaoaaGreatDoorEbc
import Derived.Test.YtgcieamfidoaoaaGreatDoorEbq
set_option linter.all false
set_option maxHeartbeats 8000000
namespace Go.Proofs.YtgcieamfidoaoaaGreatDoor
open Go.RowKit Rf Fm
set_option maxRecDepth 100000
theorem Yf {x y:Nat} (h:x≤y) (n:Nat):x^n≤y^n:=Nat.pow_le_pow_left h n
theorem Yg {b n m k:Nat} (hb:1≤b) (h:n*m≤k):(b^n)^m≤b^k:=by rw [← Nat.pow_mul];exact Nat.pow_le_pow_right hb h
theorem Uo {b k:Nat} (hb:2≤b) (hk:288≤k):(4294967296:Nat)^9≤b^k:=by
 have h1:4294967296≤b^32:=Nat.pow_le_pow_left hb 32
 exact Nat.le_trans (Yf h1 9) (Yg (by omega) (by omega))
theorem J9 {b p:Nat} {lo f:Int} {q:Rat} (hb:2≤b) (hz:Sz q.num 9) (h:Fit b p lo (if q<0 then -q else q) f):f=lo∨f≤288:=by
 rcases h.2.2 with h1 | h1
 · exact .inl h1
 right
 refine Int.not_lt.1 fun hf=>?_
 have hk:=Nat.pow_pos (n:=p-1) (show 0<b by omega)
 obtain ⟨k,rfl⟩:∃ k:Nat,f=k:=⟨f.toNat,by omega⟩
 have hd:(0:Int)<((q.den:Nat):Int):=by have:=q.den_pos;omega
 have hs:=BQ (e:=(k:Int)) hb hd (xD q) (by omega)
 rw [Bg hs.2 hs.1,show ((k:Int)).toNat=k by omega] at h1
 have h2:=(Sz.sn hz).lt
 have h3:(4294967296:Nat)^9≤b^k:=Uo hb (by omega)
 have h7:=Nat.lt_of_lt_of_le h2 h3
 clear h2 h3
 have h4:((q.num.natAbs:Nat):Int)<((q.den:Nat):Int)*((b^k:Nat):Int):=by
  have h5:b^k≤q.den*b^k:=Nat.le_mul_of_pos_left _ q.den_pos
  rw [← Int.natCast_mul]
  omega
 rw [Int.ediv_eq_zero_of_lt (by omega) h4] at h1
 omega
theorem aaY {b d:Nat} {neg:Bool} {s:Rat} {e M:Int} (h:nR d neg (decide (dg b s e%2=1)) (rest b s e)=true) (hM:lY b d neg s e=M):M=dg b s e+1:=by rw [← hM];unfold lY;rw [h];rfl
theorem aaZ {b d:Nat} {neg:Bool} {s:Rat} {e M:Int} (h:nR d neg (decide (dg b s e%2=1)) (rest b s e)=false) (hM:lY b d neg s e=M):M=dg b s e:=by rw [← hM];unfold lY;rw [h];simp
theorem aa0 {b p:Nat} {hi:Int} {d:Nat} {neg:Bool} {m e M2 E2:Int} (h:nK b p m e=(M2,E2)) (hz:M2=0):res b p hi d neg m e = .zero neg:=by unfold res;rw [h];exact if_pos hz
theorem aa1 {b p:Nat} {hi:Int} {d:Nat} {neg:Bool} {m e M2 E2:Int} (h:nK b p m e=(M2,E2)) (hz:¬ M2=0) (hl:E2≤hi):res b p hi d neg m e = .fin neg M2 E2:=by unfold res;rw [h];exact (if_neg hz).trans (if_pos hl)
theorem aa2 {b p:Nat} {hi:Int} {d:Nat} {neg:Bool} {m e M2 E2:Int} (h:nK b p m e=(M2,E2)) (hz:¬ M2=0) (hl:¬ E2≤hi) (ht:BX d neg=true):res b p hi d neg m e = .inf neg:=by unfold res;rw [h];exact ((if_neg hz).trans (if_neg hl)).trans (if_pos ht)
theorem aa3 {b p:Nat} {hi:Int} {d:Nat} {neg:Bool} {m e M2 E2:Int} (h:nK b p m e=(M2,E2)) (hz:¬ M2=0) (hl:¬ E2≤hi) (ht:BX d neg=false):res b p hi d neg m e = .fin neg (((b^p:Nat):Int)-1) hi:=by unfold res;rw [h];exact ((if_neg hz).trans (if_neg hl)).trans (if_neg (by rw [ht];simp))
theorem Ff (w:World) (va:Value) (q:Rat) (ha:Qn w va q 9 9) (b p:Nat) (lo hi:Int) (hf:fT b p lo hi) (d:Nat) (hd:d<5) (hq:q≠0) :
  Calls Tryz.prog 30 #[va,.agg #[.int .i64 ((b:Nat):Int),.int .i64 ((p:Nat):Int),.int .i64 lo,.int .i64 hi],.int .i64 ((d:Nat):Int)] w fun e w'=>∃ u,e = .returned (.tuple #[u,.int .i64 0])∧Fv w' u (rd b p lo hi d q)∧Pl.Ex w w':=by
 obtain ⟨Aa,ca,Ba,ba,rfl,ua,ta,za,ya⟩:=ha
 have f1:=hf.p1
 have f2:=hf.ku
 have f3:=hf.l
 have f4:=hf.l1
 have f5:=hf.h1
 have hb2:=hf.b2
 have hS0:=Bh hq
 obtain ⟨S,hS⟩:∃ S,(if q<0 then -q else q)=S:=⟨_,rfl⟩
 obtain ⟨Q1,Pv⟩:∃ B,decide (q<0)=B:=⟨_,rfl⟩
 rw [hS] at hS0
 obtain ⟨f,hfit⟩:=kW hb2 f1 (Rat.le_of_lt hS0) lo
 have hfb:=J9 hb2 za (by rw [hS];exact hfit)
 have hfl:=hfit.1
 have hab:=XX (p:=p) hf.r f1 f2 za ya
 have hsg:¬ Int.sign q.num=0:=fun h9=>hq (Rat.num_eq_zero.1 (Int.sign_eq_zero_iff_zero.1 h9))
 refine Rf.aA (n:=122) [.a [.c 0 0,.c 0 1,.c 0 2],.a [vI ((b:Nat):Int),vI ((p:Nat):Int),vI lo,vI hi],vI ((d:Nat):Int)] [[.bool (decide (Rat.num q<0)),.slice Aa (limbs (Rat.num q).natAbs).length ca,.slice Ba (limbs (Rat.den q)).length ba]] [(0,(pI q 9 9).S)] Tryz.func30 rfl (by kernel_rfl) rfl rfl ⟨RS.in ⟨Aa,ca,Ba,ba,rfl,ua,ta,za,ya⟩,trivial⟩ ?_
 refine Rf.bu aa 1 0 rfl ?_
 refine Rf.aC 1 (TR) (.a [.v (.func (.func 111) #[] #[]),.v (.func (.func 110) #[] #[]),.v (.func (.func 112) #[] #[]),.v (.func (.func 110) #[] #[]),.v (.func (.func 113) #[] #[]),.v (.func (.func 114) #[] #[]),.v (.func (.func 115) #[] #[]),.v (.func (.func 116) #[] #[]),.v (.func (.func 117) #[] #[]),.v (.func (.func 118) #[] #[])]) rfl (Pl.en Tryz.func69) (fun α γ w h=>xE (.a [.v (.func (.func 111) #[] #[]),.v (.func (.func 110) #[] #[]),.v (.func (.func 112) #[] #[]),.v (.func (.func 110) #[] #[]),.v (.func (.func 113) #[] #[]),.v (.func (.func 114) #[] #[]),.v (.func (.func 115) #[] #[]),.v (.func (.func 116) #[] #[]),.v (.func (.func 117) #[] #[]),.v (.func (.func 118) #[] #[])]) 1 (fun _ _=>rfl) (pO _)) ?_
 refine Rf.bY aa 0 3 rfl ?_
 refine Rf.aC 2 _ _ rfl (Pl.en Tryz.func13) (fun α γ w h=>aU 2 (ig _ b p lo hi hf)) ?_
 refine Rf.aV (.bool false) rfl (fun X=>aT _ X) ?_
 refine Rf.ay aa 4 rfl ?_
 refine Rf.ah (v:=.bool false) (fun X=>bM (by omega) X) rfl ?_
 refine Rf.ay aa 4 rfl ?_
 refine Rf.ah (v:=.bool false) (fun X=>gJ (by omega) X) rfl ?_
 refine Rf.bY aa 2 4 rfl ?_
 refine Rf.aC 3 _ _ rfl (Pl.en Tryz.func70) (fun α γ w h=>aU 3 (BV _ _ q 9 9 (h.r 0 rfl))) ?_
 refine Rf.ah (v:=.bool false) (fun X=>aK hsg X) rfl ?_
 refine Rf.HY aa 2 0 rfl ?_
 refine Rf.aQ none fo ?_
 refine Rf.aD aa 7 4 rfl ?_
 refine Rf.ak 4 _ _ rfl (Pl.en Tryz.func71) (fun α γ w h=>aU 4 (Ih _ _ q (h.r 0 rfl) b p lo hi hf)) ?_
 refine Rf.aD aa 7 4 rfl ?_
 refine Rf.aec rfl rfl rfl rfl rfl rfl rfl rfl ?_
 refine Rf.aD aa 7 4 rfl ?_
 refine Rf.aW (by kernel_rfl) ?_
 refine Rf.aP [2,3,4,6,7,8,9] [0,1,2,3] [0] rfl ?_
 refine Rf.bu aa 0 4 rfl ?_
 refine Rf.aC 5 (dW (Int.natAbs (dg b S (max (Px b p q) lo)))) (.t [.c 5 0,.a [vB (decide (0<rest b S (max (Px b p q) lo))),vI (yN (rest b S (max (Px b p q) lo))),vB (decide (dg b S (max (Px b p q) lo)%2=1)),vB Q1],vI (qX b p S (max (Px b p q) lo))]) rfl (Pl.en Tryz.func72) (fun α γ w h=>P5 5 (by have h9:=qZ _ _ q (h.r 0 rfl) b p lo hi hf (max (Px b p q) lo) (by omega) (by omega);rw [hS,Pv] at h9;exact h9)) ?_
 refine Rf.HY aa 0 4 rfl ?_
 refine Rf.Uc (X:=Int) (p:=fun x=>Fit b p lo S x∧x≤300) (fun x=>[(2,vI ((d:Nat):Int)),(4,.p 1 0),(6,.p 2 0),(7,vI 0),(8,.p 3 0),(9,vI x),(10,.c 5 0),(11,.p 4 0)]) (fun x=>[(1,23,[vI ((b:Nat):Int),vI ((p:Nat):Int),vI lo,vI hi]),(2,26,[vI 0,vF,vN,vI 0]),(3,92,[.v (.func (.func 111) #[] #[]),.v (.func (.func 110) #[] #[]),.v (.func (.func 112) #[] #[]),.v (.func (.func 110) #[] #[]),.v (.func (.func 113) #[] #[]),.v (.func (.func 114) #[] #[]),.v (.func (.func 115) #[] #[]),.v (.func (.func 116) #[] #[]),.v (.func (.func 117) #[] #[]),.v (.func (.func 118) #[] #[])]),(4,96,[vB (decide (0<rest b S x)),vI (yN (rest b S x)),vB (decide (dg b S x%2=1)),vB Q1])]) (fun x=>[(5,(dW (Int.natAbs (dg b S x))).S)]) ?_ ?_
 · intro x hpx
   obtain ⟨hfx,hx3⟩:=hpx
   have hx1:=hfx.1
   have hdg:=jw hb2 (Rat.le_of_lt hS0) x
   have hdx:=hfx.2.1
   have hsx:Sn (Int.natAbs (dg b S x)) 38:=Sn.down (bK hf.r (by omega):Sn (b^p) 38) (by omega)
   obtain ⟨U1,hU1⟩:∃ B,nR d Q1 (decide (dg b S x%2=1)) (rest b S x)=B:=⟨_,rfl⟩
   have hU2:=(Qo hd (rest b S x) (decide (dg b S x%2=1)) Q1).trans hU1
   obtain ⟨M,hM⟩:∃ M,lY b d Q1 S x=M:=⟨_,rfl⟩
   have hM9:=BZ hb2 d Q1 (Rat.le_of_lt hS0) hfx
   rw [hM] at hM9
   obtain ⟨hM1,hM2,-⟩:=hM9
   obtain ⟨M2,E2,hN⟩:∃ M2 E2,nK b p M x=(M2,E2):=⟨_,_,rfl⟩
   obtain ⟨I1,hI1⟩:∃ B,BX d Q1=B:=⟨_,rfl⟩
   have hI2:=hI1
   have hres:=yZ (hi:=hi) (d:=d) hb2 f1 hq (by rw [hS];exact hfx)
   rw [hS,Pv,hM] at hres
   repeat refine Rf.aO ?_
   repeat refine Rf.aO ?_
   refine Rf.Ka [(2,vI ((d:Nat):Int)),(4,.p 1 0),(6,.p 2 0),(7,vI 0),(8,.p 3 0),(9,vI x),(10,.c 5 0),(11,.p 4 0),(72,vB U1)] [(1,23,[vI ((b:Nat):Int),vI ((p:Nat):Int),vI lo,vI hi]),(2,26,[vI 0,vF,vN,vI 0]),(3,92,[.v (.func (.func 111) #[] #[]),.v (.func (.func 110) #[] #[]),.v (.func (.func 112) #[] #[]),.v (.func (.func 110) #[] #[]),.v (.func (.func 113) #[] #[]),.v (.func (.func 114) #[] #[]),.v (.func (.func 115) #[] #[]),.v (.func (.func 116) #[] #[]),.v (.func (.func 117) #[] #[]),.v (.func (.func 118) #[] #[])]),(4,96,[vB (decide (0<rest b S x)),vI (yN (rest b S x)),vB (decide (dg b S x%2=1)),vB Q1])] [(5,(dW (Int.natAbs (dg b S x))).S)] ?_ ?_
   · repeat refine Rf.aO ?_
     refine Rf.Ka [(2,vI ((d:Nat):Int)),(4,.p 1 0),(6,.p 2 0),(7,vI 0),(8,.p 3 0),(9,vI x),(10,.c 6 0),(11,.p 4 0)] [(1,23,[vI ((b:Nat):Int),vI ((p:Nat):Int),vI lo,vI hi]),(2,26,[vI 0,vF,vN,vI 0]),(3,92,[.v (.func (.func 111) #[] #[]),.v (.func (.func 110) #[] #[]),.v (.func (.func 112) #[] #[]),.v (.func (.func 110) #[] #[]),.v (.func (.func 113) #[] #[]),.v (.func (.func 114) #[] #[]),.v (.func (.func 115) #[] #[]),.v (.func (.func 116) #[] #[]),.v (.func (.func 117) #[] #[]),.v (.func (.func 118) #[] #[])]),(4,96,[vB (decide (0<rest b S x)),vI (yN (rest b S x)),vB (decide (dg b S x%2=1)),vB Q1])] [(6,(dW (Int.natAbs M)).S)] ?_ ?_
     · repeat refine Rf.aO ?_
       repeat refine Rf.aO ?_
       refine Rf.Ub [(2,vI ((d:Nat):Int)),(4,.p 1 0),(6,.p 2 0),(7,vI 0),(8,.p 3 0),(9,vI E2),(10,.c 7 0),(11,.p 4 0)] [(1,23,[vI ((b:Nat):Int),vI ((p:Nat):Int),vI lo,vI hi]),(2,26,[vI 0,vF,vN,vI 0]),(3,92,[.v (.func (.func 111) #[] #[]),.v (.func (.func 110) #[] #[]),.v (.func (.func 112) #[] #[]),.v (.func (.func 110) #[] #[]),.v (.func (.func 113) #[] #[]),.v (.func (.func 114) #[] #[]),.v (.func (.func 115) #[] #[]),.v (.func (.func 116) #[] #[]),.v (.func (.func 117) #[] #[]),.v (.func (.func 118) #[] #[])]),(4,96,[vB (decide (0<rest b S x)),vI (yN (rest b S x)),vB (decide (dg b S x%2=1)),vB Q1])] [(7,(dW (Int.natAbs M2)).S)] ?_ ?_
       · repeat refine Rf.aO ?_
         refine Rf.bf ?_
         repeat refine Rf.aO ?_
         by_cases hz:M2=0
         · refine Rf.bu aa 0 5 rfl ?_
           refine Rf.dD ((limbs (Int.natAbs M2)).length) Tryz.underlying24 rfl rfl rfl rfl rfl rfl (fun w f h=>Un.jX h) ?_
           refine Rf.ah (v:=.bool true) (fun X=>aM (by rw [Int.ofNat_eq_zero,jQ];omega) X) rfl ?_
           refine Rf.bY aa 1 5 rfl ?_
           refine Rf.gU (.a [vI 0,vB Q1,vN,vI 0]) rfl rfl rfl (fun _ _=>rfl) (fun α γ X=>by kernel_rfl) ?_
           refine Rf.HY aa 0 5 rfl ?_
           exact Rf.aI aa (fun _ _ h=>Pl.dG (Pl.eD h)) rfl rfl (fun α γ w h=>⟨_,rfl,by rw [hres,aa0 hN hz];exact Fv.mk (x:=.zero Q1) (iA _),h.ex⟩)
         · by_cases hl:E2≤hi
           · refine Rf.bu aa 0 5 rfl ?_
             refine Rf.dD ((limbs (Int.natAbs M2)).length) Tryz.underlying24 rfl rfl rfl rfl rfl rfl (fun w f h=>Un.jX h) ?_
             refine Rf.ah (v:=.bool false) (fun X=>aK (fun h=>hz (by rw [Int.ofNat_eq_zero,jQ] at h;omega)) X) rfl ?_
             refine Rf.bY aa 1 5 rfl ?_
             refine Rf.ah (v:=.bool true) (fun X=>cO hl X) rfl ?_
             refine Rf.bY aa 1 5 rfl ?_
             refine Rf.nQ (.a [vI 1,vB Q1,.c 7 0,vI E2]) rfl rfl rfl (fun _ _=>rfl) (fun α γ hp X=>Rf.NJ rfl rfl (Rf.P8 1 E2 Q1 (γ 7 0) (hp 7 0)) X) ?_
             refine Rf.HY aa 0 5 rfl ?_
             exact Rf.aI aa (fun _ _ h=>Pl.dG (Pl.eD h)) rfl rfl (fun α γ w h=>⟨_,rfl,by rw [hres,aa1 hN hz hl];exact Fv.mk (x:=.fin Q1 M2 E2) (h.r 7 rfl),h.ex⟩)
           · refine Rf.bu aa 0 5 rfl ?_
             refine Rf.dD ((limbs (Int.natAbs M2)).length) Tryz.underlying24 rfl rfl rfl rfl rfl rfl (fun w f h=>Un.jX h) ?_
             refine Rf.ah (v:=.bool false) (fun X=>aK (fun h=>hz (by rw [Int.ofNat_eq_zero,jQ] at h;omega)) X) rfl ?_
             refine Rf.bY aa 1 5 rfl ?_
             refine Rf.ah (v:=.bool false) (fun X=>Ii hl X) rfl ?_
             refine Rf.HY aa 1 5 rfl ?_
             refine Rf.Ka [(4,.p 1 0),(6,.p 2 0),(7,vI 0),(11,.p 4 0),(107,vB I1)] [(1,23,[vI ((b:Nat):Int),vI ((p:Nat):Int),vI lo,vI hi]),(2,26,[vI 0,vF,vN,vI 0]),(4,96,[vB (decide (0<rest b S x)),vI (yN (rest b S x)),vB (decide (dg b S x%2=1)),vB Q1])] [] ?_ ?_
             · cases I1
               · refine Rf.HX aa 2 0 rfl ?_
                 refine Rf.aZ ?_
                 refine Rf.bu aa 0 5 rfl ?_
                 refine Rf.aC 8 _ _ rfl (Pl.en Tryz.func74) (fun α γ w h=>fC 8 (zT _ b p lo hi hf Q1)) ?_
                 refine Rf.HY aa 0 5 rfl ?_
                 exact Rf.aaa aa rfl (fun α γ w h=>⟨_,rfl,by rw [hres,aa3 hN hz hl hI1];exact Fv.mk (x:=.fin Q1 (((b^p:Nat):Int)-1) hi) (h.r 8 rfl),h.ex⟩)
               · refine Rf.bu aa 1 5 rfl ?_
                 refine Rf.gU (.a [vI 2,vB Q1,vN,vI 0]) rfl rfl rfl (fun _ _=>rfl) (fun α γ X=>by kernel_rfl) ?_
                 refine Rf.HY aa 0 5 rfl ?_
                 exact Rf.aI aa (fun _ _ h=>Pl.dG (Pl.eD h)) rfl rfl (fun α γ w h=>⟨_,rfl,by rw [hres,aa2 hN hz hl hI1];exact Fv.mk (x:=.inf Q1) (iA _),h.ex⟩)
             · intro Tw
               rcases (show d=0∨d=1∨d=2∨d=3∨d=4 by omega) with rfl | rfl | rfl | rfl | rfl
               · refine Rf.iB none fo rfl ?_
                 refine Rf.aD aa 8 5 rfl ?_
                 refine Rf.qw (j:=0) (q':=0) (s:=2) Tryz.underlying92 (by kernel_rfl) rfl (by decide) rfl rfl rfl rfl rfl rfl rfl rfl rfl ?_
                 refine Rf.aD aa 8 5 rfl ?_
                 refine Rf.nk 8 (.bool I1) rfl rfl rfl rfl rfl rfl rfl rfl (Pl.en Tryz.func110) (fun α γ w=>Calls.mono (BU w _) fun e w' ⟨h1,h2⟩=>⟨h1.trans (congrArg (fun b=>Ending.returned (.bool b)) (show true=I1 from hI1)),h2⟩) ?_
                 refine Rf.aD aa 8 5 rfl ?_
                 refine Rf.aW (by kernel_rfl) ?_
                 exact Rf.jJ [] [] Tw ⟨rfl,rfl,rfl,rfl,rfl,trivial⟩ ⟨rfl,rfl,rfl,trivial⟩ trivial rfl
               · refine Rf.iB none fo rfl ?_
                 refine Rf.aD aa 8 5 rfl ?_
                 refine Rf.qw (j:=1) (q':=2) (s:=2) Tryz.underlying92 (by kernel_rfl) rfl (by decide) rfl rfl rfl rfl rfl rfl rfl rfl rfl ?_
                 refine Rf.aD aa 8 5 rfl ?_
                 refine Rf.nk 8 (.bool I1) rfl rfl rfl rfl rfl rfl rfl rfl (Pl.en Tryz.func110) (fun α γ w=>Calls.mono (BU w _) fun e w' ⟨h1,h2⟩=>⟨h1.trans (congrArg (fun b=>Ending.returned (.bool b)) (show true=I1 from hI1)),h2⟩) ?_
                 refine Rf.aD aa 8 5 rfl ?_
                 refine Rf.aW (by kernel_rfl) ?_
                 exact Rf.jJ [] [] Tw ⟨rfl,rfl,rfl,rfl,rfl,trivial⟩ ⟨rfl,rfl,rfl,trivial⟩ trivial rfl
               · refine Rf.iB none fo rfl ?_
                 refine Rf.aD aa 8 5 rfl ?_
                 refine Rf.qw (j:=2) (q':=4) (s:=2) Tryz.underlying92 (by kernel_rfl) rfl (by decide) rfl rfl rfl rfl rfl rfl rfl rfl rfl ?_
                 refine Rf.aD aa 8 5 rfl ?_
                 refine Rf.nk 8 (.bool I1) rfl rfl rfl rfl rfl rfl rfl rfl (Pl.en Tryz.func114) (fun α γ w=>Calls.mono (J6 w _) fun e w' ⟨h1,h2⟩=>⟨h1.trans (congrArg (fun b=>Ending.returned (.bool b)) (show false=I1 from hI1)),h2⟩) ?_
                 refine Rf.aD aa 8 5 rfl ?_
                 refine Rf.aW (by kernel_rfl) ?_
                 exact Rf.jJ [] [] Tw ⟨rfl,rfl,rfl,rfl,rfl,trivial⟩ ⟨rfl,rfl,rfl,trivial⟩ trivial rfl
               · refine Rf.iB none fo rfl ?_
                 refine Rf.aD aa 8 5 rfl ?_
                 refine Rf.qw (j:=3) (q':=6) (s:=2) Tryz.underlying92 (by kernel_rfl) rfl (by decide) rfl rfl rfl rfl rfl rfl rfl rfl rfl ?_
                 refine Rf.aD aa 8 5 rfl ?_
                 refine Rf.nk 8 (.bool I1) rfl rfl rfl rfl rfl rfl rfl rfl (Pl.en Tryz.func116) (fun α γ w=>Calls.mono (J8 w _) fun e w' ⟨h1,h2⟩=>⟨h1.trans (congrArg (fun b=>Ending.returned (.bool b)) (show (!Q1)=I1 from hI1)),h2⟩) ?_
                 refine Rf.aD aa 8 5 rfl ?_
                 refine Rf.aW (by kernel_rfl) ?_
                 exact Rf.jJ [] [] Tw ⟨rfl,rfl,rfl,rfl,rfl,trivial⟩ ⟨rfl,rfl,rfl,trivial⟩ trivial rfl
               · refine Rf.iB none fo rfl ?_
                 refine Rf.aD aa 8 5 rfl ?_
                 refine Rf.qw (j:=4) (q':=8) (s:=2) Tryz.underlying92 (by kernel_rfl) rfl (by decide) rfl rfl rfl rfl rfl rfl rfl rfl rfl ?_
                 refine Rf.aD aa 8 5 rfl ?_
                 refine Rf.nk 8 (.bool I1) rfl rfl rfl rfl rfl rfl rfl rfl (Pl.en Tryz.func118) (fun α γ w=>Calls.mono (J7 w _) fun e w' ⟨h1,h2⟩=>⟨h1.trans (congrArg (fun b=>Ending.returned (.bool b)) (show Q1=I1 from hI1)),h2⟩) ?_
                 refine Rf.aD aa 8 5 rfl ?_
                 refine Rf.aW (by kernel_rfl) ?_
                 exact Rf.jJ [] [] Tw ⟨rfl,rfl,rfl,rfl,rfl,trivial⟩ ⟨rfl,rfl,rfl,trivial⟩ trivial rfl
       · intro hc4
         by_cases hP:M=((b^p:Nat):Int)
         · have hN2:=(if_pos hP).symm.trans hN
           obtain ⟨hN3,hN4⟩:=Prod.mk.inj hN2
           refine Rf.bu aa 0 5 rfl ?_
           refine Rf.aC 8 _ _ rfl (Pl.en Tryz.func45) (fun α γ w h=>dO 8 (bI _ b p p lo hi ((p:Nat):Int) hf.r (by omega) (by omega))) ?_
           refine Rf.aC 9 _ _ rfl (Pl.en Tryz.func44) (fun α γ w h=>aU 9 (jv _ _ _ (Int.natAbs M) (b^p) (h.r 6 rfl) (h.r 8 rfl) _ rfl)) ?_
           refine Rf.ah (v:=.bool true) (fun X=>aM (xC.2 (by omega)) X) rfl ?_
           refine Rf.bY aa 1 5 rfl ?_
           refine Rf.ah (v:=.int .i64 (((p:Nat):Int)-1)) (fun X=>eH (by omega) X) rfl ?_
           refine Rf.aC 10 _ _ rfl (Pl.en Tryz.func45) (fun α γ w h=>dO 10 (bI _ b p (p-1) lo hi (((p:Nat):Int)-1) hf.r (by omega) (by omega))) ?_
           refine Rf.ay aa 5 rfl ?_
           refine Rf.ah (v:=.int .i64 (x+1)) (fun X=>gB (by omega) X) rfl ?_
           refine Rf.HY0 aa 0 5 rfl ?_
           refine Rf.Fg 10 (dW (Int.natAbs M2)) rfl (fun w f h=>by rw [← hN3];exact h) ?_
           subst hN4
           exact Rf.jJ [] [(7,10)] hc4 ⟨rfl,rfl,rfl,rfl,rfl,rfl,rfl,rfl,trivial⟩ ⟨rfl,rfl,rfl,rfl,trivial⟩ ⟨rfl,trivial⟩ rfl
         · have hN2:=(if_neg hP).symm.trans hN
           obtain ⟨hN3,hN4⟩:=Prod.mk.inj hN2
           refine Rf.bu aa 0 5 rfl ?_
           refine Rf.aC 8 _ _ rfl (Pl.en Tryz.func45) (fun α γ w h=>dO 8 (bI _ b p p lo hi ((p:Nat):Int) hf.r (by omega) (by omega))) ?_
           refine Rf.aC 9 _ _ rfl (Pl.en Tryz.func44) (fun α γ w h=>aU 9 (jv _ _ _ (Int.natAbs M) (b^p) (h.r 6 rfl) (h.r 8 rfl) _ rfl)) ?_
           refine Rf.ah (v:=.bool false) (fun X=>aK (fun h=>hP (by have h9:=xC.1 h;omega)) X) rfl ?_
           refine Rf.HY0 aa 2 0 rfl ?_
           refine Rf.Fg 6 (dW (Int.natAbs M2)) rfl (fun w f h=>by rw [← hN3];exact h) ?_
           subst hN4
           exact Rf.jJ [] [(7,6)] hc4 ⟨rfl,rfl,rfl,rfl,rfl,rfl,rfl,rfl,trivial⟩ ⟨rfl,rfl,rfl,rfl,trivial⟩ ⟨rfl,trivial⟩ rfl
     · intro hc3
       cases U1
       · refine Rf.HX aa 1 0 rfl ?_
         have hM3:=aaZ hU1 hM
         refine Rf.HX0 aa 1 0 rfl ?_
         refine Rf.Fg 5 (dW (Int.natAbs M)) rfl (fun w f h=>by rw [hM3];exact h) ?_
         exact Rf.jJ [] [(6,5)] hc3 ⟨rfl,rfl,rfl,rfl,rfl,rfl,rfl,rfl,trivial⟩ ⟨rfl,rfl,rfl,rfl,trivial⟩ ⟨rfl,trivial⟩ rfl
       · refine Rf.HX aa 1 0 rfl ?_
         have hM3:=aaY hU1 hM
         refine Rf.bu aa 0 5 rfl ?_
         refine Rf.mH (e := 57) (m:=1) [.int .u32 1] 7 (dW 1) rfl rfl rfl (fun _ _=>rfl) (fun α γ X=>by kernel_rfl) rfl (fun N w k=>Un.one (x:=1) k rfl (by omega)) ?_
         refine Rf.aC 8 _ _ rfl (Pl.en Tryz.func73) (fun α γ w h=>dO 8 (Ig _ _ _ (Int.natAbs (dg b S x)) 1 (h.r 5 rfl) (h.r 7 rfl) (Nat.le_trans hsx (by decide)) (Nat.le_trans (Sn.of (K:=1) (by decide)) (by decide)) (Int.natAbs M) (by omega))) ?_
         refine Rf.HY0 aa 0 5 rfl ?_
         exact Rf.jJ [] [(6,8)] hc3 ⟨rfl,rfl,rfl,rfl,rfl,rfl,rfl,rfl,trivial⟩ ⟨rfl,rfl,rfl,rfl,trivial⟩ ⟨rfl,trivial⟩ rfl
   · intro hc2
     rcases (show d=0∨d=1∨d=2∨d=3∨d=4 by omega) with rfl | rfl | rfl | rfl | rfl
     · refine Rf.iB none fo rfl ?_
       refine Rf.aD aa 6 5 rfl ?_
       refine Rf.qw (j:=0) (q':=0) (s:=2) Tryz.underlying92 (by kernel_rfl) rfl (by decide) rfl rfl rfl rfl rfl rfl rfl rfl rfl ?_
       refine Rf.aD aa 6 5 rfl ?_
       refine Rf.nk 6 (.bool U1) rfl rfl rfl rfl rfl rfl rfl rfl (Pl.en Tryz.func111) (fun α γ w=>by have h9:=NL w (decide (0<rest b S x)) (yN (rest b S x)) (decide (dg b S x%2=1)) Q1;rw [hU2] at h9;exact h9) ?_
       refine Rf.aW (by kernel_rfl) ?_
       exact Rf.jJ [] [] hc2 ⟨rfl,rfl,rfl,rfl,rfl,rfl,rfl,rfl,rfl,trivial⟩ ⟨rfl,rfl,rfl,rfl,trivial⟩ ⟨rfl,trivial⟩ rfl
     · refine Rf.iB none fo rfl ?_
       refine Rf.aD aa 6 5 rfl ?_
       refine Rf.qw (j:=1) (q':=2) (s:=2) Tryz.underlying92 (by kernel_rfl) rfl (by decide) rfl rfl rfl rfl rfl rfl rfl rfl rfl ?_
       refine Rf.aD aa 6 5 rfl ?_
       refine Rf.nk 6 (.bool U1) rfl rfl rfl rfl rfl rfl rfl rfl (Pl.en Tryz.func112) (fun α γ w=>by have h9:=NM w (decide (0<rest b S x)) (yN (rest b S x)) (decide (dg b S x%2=1)) Q1;rw [hU2] at h9;exact h9) ?_
       refine Rf.aW (by kernel_rfl) ?_
       exact Rf.jJ [] [] hc2 ⟨rfl,rfl,rfl,rfl,rfl,rfl,rfl,rfl,rfl,trivial⟩ ⟨rfl,rfl,rfl,rfl,trivial⟩ ⟨rfl,trivial⟩ rfl
     · refine Rf.iB none fo rfl ?_
       refine Rf.aD aa 6 5 rfl ?_
       refine Rf.qw (j:=2) (q':=4) (s:=2) Tryz.underlying92 (by kernel_rfl) rfl (by decide) rfl rfl rfl rfl rfl rfl rfl rfl rfl ?_
       refine Rf.aD aa 6 5 rfl ?_
       refine Rf.nk 6 (.bool U1) rfl rfl rfl rfl rfl rfl rfl rfl (Pl.en Tryz.func113) (fun α γ w=>by have h9:=NN w (decide (0<rest b S x)) (yN (rest b S x)) (decide (dg b S x%2=1)) Q1;rw [hU2] at h9;exact h9) ?_
       refine Rf.aW (by kernel_rfl) ?_
       exact Rf.jJ [] [] hc2 ⟨rfl,rfl,rfl,rfl,rfl,rfl,rfl,rfl,rfl,trivial⟩ ⟨rfl,rfl,rfl,rfl,trivial⟩ ⟨rfl,trivial⟩ rfl
     · refine Rf.iB none fo rfl ?_
       refine Rf.aD aa 6 5 rfl ?_
       refine Rf.qw (j:=3) (q':=6) (s:=2) Tryz.underlying92 (by kernel_rfl) rfl (by decide) rfl rfl rfl rfl rfl rfl rfl rfl rfl ?_
       refine Rf.aD aa 6 5 rfl ?_
       refine Rf.nk 6 (.bool U1) rfl rfl rfl rfl rfl rfl rfl rfl (Pl.en Tryz.func115) (fun α γ w=>by have h9:=NP w (decide (0<rest b S x)) (yN (rest b S x)) (decide (dg b S x%2=1)) Q1;rw [hU2] at h9;exact h9) ?_
       refine Rf.aW (by kernel_rfl) ?_
       exact Rf.jJ [] [] hc2 ⟨rfl,rfl,rfl,rfl,rfl,rfl,rfl,rfl,rfl,trivial⟩ ⟨rfl,rfl,rfl,rfl,trivial⟩ ⟨rfl,trivial⟩ rfl
     · refine Rf.iB none fo rfl ?_
       refine Rf.aD aa 6 5 rfl ?_
       refine Rf.qw (j:=4) (q':=8) (s:=2) Tryz.underlying92 (by kernel_rfl) rfl (by decide) rfl rfl rfl rfl rfl rfl rfl rfl rfl ?_
       refine Rf.aD aa 6 5 rfl ?_
       refine Rf.nk 6 (.bool U1) rfl rfl rfl rfl rfl rfl rfl rfl (Pl.en Tryz.func117) (fun α γ w=>by have h9:=NQ w (decide (0<rest b S x)) (yN (rest b S x)) (decide (dg b S x%2=1)) Q1;rw [hU2] at h9;exact h9) ?_
       refine Rf.aW (by kernel_rfl) ?_
       exact Rf.jJ [] [] hc2 ⟨rfl,rfl,rfl,rfl,rfl,rfl,rfl,rfl,rfl,trivial⟩ ⟨rfl,rfl,rfl,rfl,trivial⟩ ⟨rfl,trivial⟩ rfl
 · intro hc1
   repeat refine Rf.aO ?_
   refine Rf.bf ?_
   refine Rf.jJ [] [] (Rf.Uq (X:=Int) (fun x=>[(2,vI ((d:Nat):Int)),(3,.p 0 0),(4,.p 1 0),(6,.p 2 0),(7,vI 0),(8,.p 3 0),(9,vI x),(10,.c 5 0),(11,.p 4 0),(12,vI (qX b p S x))]) (fun x=>[(0,36,[.c 0 0,.c 0 1,.c 0 2]),(1,23,[vI ((b:Nat):Int),vI ((p:Nat):Int),vI lo,vI hi]),(2,26,[vI 0,vF,vN,vI 0]),(3,92,[.v (.func (.func 111) #[] #[]),.v (.func (.func 110) #[] #[]),.v (.func (.func 112) #[] #[]),.v (.func (.func 110) #[] #[]),.v (.func (.func 113) #[] #[]),.v (.func (.func 114) #[] #[]),.v (.func (.func 115) #[] #[]),.v (.func (.func 116) #[] #[]),.v (.func (.func 117) #[] #[]),.v (.func (.func 118) #[] #[])]),(4,96,[vB (decide (0<rest b S x)),vI (yN (rest b S x)),vB (decide (dg b S x%2=1)),vB Q1])]) (fun x=>[(0,(pI q 9 9).S),(5,(dW (Int.natAbs (dg b S x))).S)]) (fun x=>(x-f).natAbs) (fun x=>lo≤x∧x≤300) (max (Px b p q) lo) ⟨by omega,by omega⟩ ?_) ⟨rfl,rfl,rfl,rfl,rfl,rfl,rfl,rfl,rfl,rfl,trivial⟩ ⟨rfl,rfl,rfl,rfl,rfl,trivial⟩ ⟨rfl,rfl,trivial⟩ rfl
   intro x uK
   obtain ⟨hx1,hx2⟩:=uK
   repeat refine Rf.aO ?_
   by_cases c1:qX b p S x>0
   · obtain ⟨e1,e2⟩:=Yh hb2 f1 hfit hx1 c1
     refine Rf.bu aa 0 5 rfl ?_
     refine Rf.ah (v:=.bool true) (fun X=>jR c1 X) rfl ?_
     refine Rf.HY aa 2 5 rfl ?_
     refine Rf.bf ?_
     refine Rf.bu aa 0 5 rfl ?_
     refine Rf.ah (v:=.int .i64 (x+(qX b p S x))) (fun X=>gB (by omega) X) rfl ?_
     refine Rf.bY aa 0 5 rfl ?_
     refine Rf.aC 6 (dW (Int.natAbs (dg b S (x+(qX b p S x))))) (.t [.c 6 0,.a [vB (decide (0<rest b S (x+(qX b p S x)))),vI (yN (rest b S (x+(qX b p S x)))),vB (decide (dg b S (x+(qX b p S x))%2=1)),vB Q1],vI (qX b p S (x+(qX b p S x)))]) rfl (Pl.en Tryz.func72) (fun α γ w h=>P5 6 (by have h9:=qZ _ _ q (h.r 0 rfl) b p lo hi hf (x+(qX b p S x)) (by omega) (by omega);rw [hS,Pv] at h9;exact h9)) ?_
     refine Rf.HY aa 0 5 rfl ?_
     refine Rf.aZ ?_
     repeat refine Rf.aO ?_
     exact Rf.Ij _ _ _ _ _ (x+(qX b p S x)) (by omega) ⟨by omega,by omega⟩ [] [(5,6)] ⟨rfl,rfl,rfl,rfl,rfl,rfl,rfl,rfl,rfl,rfl,trivial⟩ ⟨rfl,rfl,rfl,rfl,rfl,trivial⟩ ⟨rfl,rfl,trivial⟩ rfl
   · by_cases c2:qX b p S x<0
     · by_cases c3:x>lo
       · obtain ⟨e1,e2⟩:=Qp hb2 f1 hfit c3 c2
         refine Rf.bu aa 0 5 rfl ?_
         refine Rf.ah (v:=.bool false) (fun X=>bz c1 X) rfl ?_
         refine Rf.ay aa 5 rfl ?_
         refine Rf.ah (v:=.bool true) (fun X=>bL c2 X) rfl ?_
         refine Rf.ay aa 5 rfl ?_
         refine Rf.ah (v:=.bool true) (fun X=>jR c3 X) rfl ?_
         refine Rf.HY aa 2 5 rfl ?_
         refine Rf.bf ?_
         refine Rf.bu aa 0 5 rfl ?_
         refine Rf.ah (v:=.int .i64 (x+(qX b p S x))) (fun X=>gB (by omega) X) rfl ?_
         refine Rf.bY aa 0 5 rfl ?_
         refine Rf.aC 6 (dW (Int.natAbs (dg b S (x+(qX b p S x))))) (.t [.c 6 0,.a [vB (decide (0<rest b S (x+(qX b p S x)))),vI (yN (rest b S (x+(qX b p S x)))),vB (decide (dg b S (x+(qX b p S x))%2=1)),vB Q1],vI (qX b p S (x+(qX b p S x)))]) rfl (Pl.en Tryz.func72) (fun α γ w h=>P5 6 (by have h9:=qZ _ _ q (h.r 0 rfl) b p lo hi hf (x+(qX b p S x)) (by omega) (by omega);rw [hS,Pv] at h9;exact h9)) ?_
         refine Rf.HY aa 0 5 rfl ?_
         refine Rf.aZ ?_
         repeat refine Rf.aO ?_
         exact Rf.Ij _ _ _ _ _ (x+(qX b p S x)) (by omega) ⟨by omega,by omega⟩ [] [(5,6)] ⟨rfl,rfl,rfl,rfl,rfl,rfl,rfl,rfl,rfl,rfl,trivial⟩ ⟨rfl,rfl,rfl,rfl,rfl,trivial⟩ ⟨rfl,rfl,trivial⟩ rfl
       · refine Rf.bu aa 0 5 rfl ?_
         refine Rf.ah (v:=.bool false) (fun X=>bz c1 X) rfl ?_
         refine Rf.ay aa 5 rfl ?_
         refine Rf.ah (v:=.bool true) (fun X=>bL c2 X) rfl ?_
         refine Rf.ay aa 5 rfl ?_
         refine Rf.ah (v:=.bool false) (fun X=>bz c3 X) rfl ?_
         refine Rf.HY aa 1 5 rfl ?_
         refine Rf.og ?_
         exact Rf.Kb (hc1 x ⟨Ma hx1 (by omega) (by omega),hx2⟩) ⟨rfl,rfl,rfl,rfl,rfl,rfl,rfl,rfl,trivial⟩ ⟨rfl,rfl,rfl,rfl,trivial⟩ ⟨rfl,trivial⟩
     · refine Rf.bu aa 0 5 rfl ?_
       refine Rf.ah (v:=.bool false) (fun X=>bz c1 X) rfl ?_
       refine Rf.ay aa 5 rfl ?_
       refine Rf.ah (v:=.bool false) (fun X=>bM c2 X) rfl ?_
       refine Rf.HY aa 1 5 rfl ?_
       refine Rf.og ?_
       exact Rf.Kb (hc1 x ⟨Ma hx1 (by omega) (by omega),hx2⟩) ⟨rfl,rfl,rfl,rfl,rfl,rfl,rfl,rfl,trivial⟩ ⟨rfl,rfl,rfl,rfl,trivial⟩ ⟨rfl,trivial⟩
end Go.Proofs.YtgcieamfidoaoaaGreatDoor
