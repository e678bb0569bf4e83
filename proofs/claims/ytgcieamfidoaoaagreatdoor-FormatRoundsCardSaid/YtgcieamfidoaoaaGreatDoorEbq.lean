/- The greatest float; floats beside a finite one. -/
import Derived.Test.YtgcieamfidoaoaaGreatDoorEbc
import Derived.Test.YtgcieamfidoaoaaGreatDoorEbp
set_option linter.all false
set_option maxHeartbeats 8000000
namespace Go.Proofs.YtgcieamfidoaoaaGreatDoor
open Go.RowKit Rf Fm
set_option maxRecDepth 100000
def uY (b p:Nat) (hi:Int) (n:Bool) (m e:Int):Fl:=if (nK b p (m+1) e).2≤hi then .fin n (nK b p (m+1) e).1 (nK b p (m+1) e).2 else .inf n
theorem aaN {b p:Nat} {hi m e:Int} {n:Bool} (h:m+1=((b^p:Nat):Int)) (g:e+1≤hi):uY b p hi n m e = .fin n ((b^(p-1):Nat):Int) (e+1):=by unfold uY nK;rw [if_pos h];exact if_pos g
theorem aaO {b p:Nat} {hi m e:Int} {n:Bool} (h:m+1=((b^p:Nat):Int)) (g:¬ e+1≤hi):uY b p hi n m e = .inf n:=by unfold uY nK;rw [if_pos h];exact if_neg g
theorem aaP {b p:Nat} {hi m e:Int} {n:Bool} (h:¬ m+1=((b^p:Nat):Int)) (g:e≤hi):uY b p hi n m e = .fin n (m+1) e:=by unfold uY nK;rw [if_neg h];exact if_pos g
def nU (b p:Nat) (lo:Int) (n:Bool) (m e:Int):Fl:=if (lX b p lo m e).1=0 then .zero n else .fin n (lX b p lo m e).1 (lX b p lo m e).2
theorem XZ {b p:Nat} {lo m e:Int} {n:Bool} (hb:2≤b) (hp:1≤p) (h:lo<e) (g:m-1<((b^(p-1):Nat):Int)):nU b p lo n m e = .fin n (((b^p:Nat):Int)-1) (e-1):=by
 have h0:1<b^p:=Nat.one_lt_pow (by omega) (by omega)
 have h1:lX b p lo m e=(((b^p:Nat):Int)-1,e-1):=if_pos ⟨h,g⟩
 unfold nU
 rw [h1]
 exact if_neg (show ¬ (((b^p:Nat):Int)-1=0) by omega)
theorem Ql {b p:Nat} {lo m e:Int} {n:Bool} (h:¬ (lo<e∧m-1<((b^(p-1):Nat):Int))) (g:m-1=0):nU b p lo n m e = .zero n:=by
 have h1:lX b p lo m e=(m-1,e):=if_neg h
 unfold nU
 rw [h1]
 exact if_pos g
theorem Qm {b p:Nat} {lo m e:Int} {n:Bool} (h:¬ (lo<e∧m-1<((b^(p-1):Nat):Int))) (g:¬ m-1=0):nU b p lo n m e = .fin n (m-1) e:=by
 have h1:lX b p lo m e=(m-1,e):=if_neg h
 unfold nU
 rw [h1]
 exact if_neg g
theorem BS (w:World) (b p:Nat) (lo hi:Int) (hf:fT b p lo hi) :
  Calls Tryz.prog 126 #[.agg #[.int .i64 ((b:Nat):Int),.int .i64 ((p:Nat):Int),.int .i64 lo,.int .i64 hi]] w fun e w'=>∃ u,e = .returned u∧Un w' u (Int.natAbs (((b^p:Nat):Int)-1))∧Pl.Ex w w':=by
 have f1:=hf.p1
 have f2:=hf.ku
 have f3:=hf.l
 have f4:=hf.l1
 have f5:=hf.h1
 have hb2:=hf.b2
 have hpw:=Nat.pow_pos (n:=p) (show 0<b by omega)
 refine Rf.aA (n:=15) [.a [vI ((b:Nat):Int),vI ((p:Nat):Int),vI lo,vI hi]] [] [] Tryz.func126 rfl (by kernel_rfl) rfl rfl trivial ?_
 refine Rf.bu aa 1 0 rfl ?_
 refine Rf.aC 0 _ _ rfl (Pl.en Tryz.func45) (fun α γ w h=>dO 0 (bI _ b p p lo hi ((p:Nat):Int) hf.r (by omega) (by omega))) ?_
 refine Rf.mH (e := 57) (m:=1) [.int .u32 1] 1 (dW 1) rfl rfl rfl (fun _ _=>rfl) (fun α γ X=>by kernel_rfl) rfl (fun N w k=>Un.one (x:=1) k rfl (by omega)) ?_
 refine Rf.aC 2 (dW (Int.natAbs (((b^p:Nat):Int)-1))) (.t [.c 2 0,vT]) rfl (Pl.en Tryz.func140) (fun α γ w h=>PZ 2 (L8 _ _ _ (b^p) 1 (h.r 0 rfl) (h.r 1 rfl) (Nat.le_trans (bK hf.r (by omega):Sn (b^p) 38) (by decide)) true (decide_eq_true (by omega)) (Int.natAbs (((b^p:Nat):Int)-1)) (by omega))) ?_
 refine Rf.HY aa 1 1 rfl ?_
 exact Rf.aaa aa rfl (fun α γ w h=>⟨_,rfl,h.r 2 rfl,h.ex⟩)
theorem zT (w:World) (b p:Nat) (lo hi:Int) (hf:fT b p lo hi) (n9:Bool) :
  Calls Tryz.prog 74 #[.agg #[.int .i64 ((b:Nat):Int),.int .i64 ((p:Nat):Int),.int .i64 lo,.int .i64 hi],.bool n9] w fun e w'=>∃ u,e = .returned u∧Fv w' u (.fin n9 (((b^p:Nat):Int)-1) hi)∧Pl.Ex w w':=by
 have f1:=hf.p1
 have f2:=hf.ku
 have f3:=hf.l
 have f4:=hf.l1
 have f5:=hf.h1
 have hb2:=hf.b2
 have hpw:=Nat.pow_pos (n:=p) (show 0<b by omega)
 refine Rf.aA (n:=11) [.a [vI ((b:Nat):Int),vI ((p:Nat):Int),vI lo,vI hi],vB n9] [] [] Tryz.func74 rfl (by kernel_rfl) rfl rfl trivial ?_
 refine Rf.HX aa 1 0 rfl ?_
 refine Rf.aQ none fo ?_
 refine Rf.aD aa 7 2 rfl ?_
 refine Rf.ak 0 _ _ rfl (Pl.en Tryz.func126) (fun α γ w h=>dO 0 (BS _ b p lo hi hf)) ?_
 refine Rf.aD aa 7 2 rfl ?_
 refine Rf.aaI (.a [vI 1,vB n9,.c 0 0,vI hi]) [5,7,9] rfl rfl rfl rfl rfl (fun _ _=>rfl) (fun α γ hp X=>Rf.NJ rfl rfl (Rf.P8 1 hi n9 (γ 0 0) (hp 0 0)) X) ?_
 refine Rf.aD aa 7 2 rfl ?_
 refine Rf.aW (by kernel_rfl) ?_
 refine Rf.aP [4] [1] [0] rfl ?_
 exact Rf.aaa aa rfl (fun α γ w h=>⟨_,rfl,Fv.mk (x:=.fin n9 (((b^p:Nat):Int)-1) hi) (h.r 0 rfl),h.ex⟩)
theorem DL (w:World) (va:Value) (n9:Bool) (m e0:Int) (ha:Fv w va (.fin n9 m e0)) (b p:Nat) (lo hi:Int) (hf:fT b p lo hi) (hx:Nf b p lo m e0) (hh:e0≤hi) :
  Calls Tryz.prog 104 #[.agg #[.int .i64 ((b:Nat):Int),.int .i64 ((p:Nat):Int),.int .i64 lo,.int .i64 hi],va] w fun e w'=>∃ u,e = .returned u∧Fv w' u (uY b p hi n9 m e0)∧Pl.Ex w w':=by
 have f1:=hf.p1
 have f2:=hf.ku
 have f3:=hf.l
 have f4:=hf.l1
 have f5:=hf.h1
 obtain ⟨x1,x2,x3,x4⟩:=hx
 have hb2:=hf.b2
 have hpw:=Nat.pow_pos (n:=p) (show 0<b by omega)
 have hpq:=Nat.pow_pos (n:=p-1) (show 0<b by omega)
 have hs:Sn (mn (.fin n9 m e0)) 38:=Sn.down (bK hf.r (by omega):Sn (b^p) 38) (show m.natAbs≤b^p by omega)
 have hs1:Sn (Int.natAbs m) 38:=hs
 have hs2:Sn (Int.natAbs (m+1)) 38:=Sn.down (bK hf.r (by omega):Sn (b^p) 38) (by omega)
 obtain ⟨Aa,ca,rfl,ua⟩:=ha
 refine Rf.aA (n:=37) [.a [vI ((b:Nat):Int),vI ((p:Nat):Int),vI lo,vI hi],.a [vI 1,vB n9,.c 0 0,vI e0]] [[.slice Aa (limbs (Int.natAbs m)).length ca]] [(0,(dW (Int.natAbs m)).S)] Tryz.func104 rfl (by kernel_rfl) rfl rfl ⟨RS.in ua,trivial⟩ ?_
 refine Rf.bu aa 1 0 rfl ?_
 refine Rf.mH (e := 57) (m:=1) [.int .u32 1] 1 (dW 1) rfl rfl rfl (fun _ _=>rfl) (fun α γ X=>by kernel_rfl) rfl (fun N w k=>Un.one (x:=1) k rfl (by omega)) ?_
 refine Rf.aC 2 _ _ rfl (Pl.en Tryz.func73) (fun α γ w h=>dO 2 (Ig _ _ _ (Int.natAbs m) 1 (h.r 0 rfl) (h.r 1 rfl) (Nat.le_trans hs1 (by decide)) (Nat.le_trans (Sn.of (K:=1) (by decide)) (by decide)) (Int.natAbs (m+1)) (by omega))) ?_
 refine Rf.HY aa 0 3 rfl ?_
 by_cases hm:m+1=((b^p:Nat):Int)
 · refine Rf.iB none fo rfl ?_
   refine Rf.aD aa 8 3 rfl ?_
   refine Rf.ak 3 _ _ rfl (Pl.en Tryz.func45) (fun α γ w h=>dO 3 (bI _ b p p lo hi ((p:Nat):Int) hf.r (by omega) (by omega))) ?_
   refine Rf.ak 4 _ _ rfl (Pl.en Tryz.func44) (fun α γ w h=>aU 4 (jv _ _ _ (Int.natAbs (m+1)) (b^p) (h.r 2 rfl) (h.r 3 rfl) _ rfl)) ?_
   refine Rf.dL (vT) rfl (fun α γ w h=>(fun X=>aM (xC.2 (by omega)) X) w) ?_
   refine Rf.aW (by kernel_rfl) ?_
   refine Rf.aP [2,3,4,17] [0,1,2] [2] rfl ?_
   refine Rf.HX aa 1 0 rfl ?_
   refine Rf.aQ none fo ?_
   refine Rf.aD aa 12 3 rfl ?_
   refine Rf.Be (vI (((p:Nat):Int)-1)) rfl rfl rfl rfl rfl rfl rfl rfl rfl rfl (fun α γ w h=>(fun X=>eH (by omega) X) w) ?_
   refine Rf.ak 5 _ _ rfl (Pl.en Tryz.func45) (fun α γ w h=>dO 5 (bI _ b p (p-1) lo hi (((p:Nat):Int)-1) hf.r (by omega) (by omega))) ?_
   refine Rf.aD aa 12 3 rfl ?_
   refine Rf.dL (vI (e0+1)) rfl (fun α γ w h=>(fun X=>gB (by omega) X) w) ?_
   refine Rf.aD aa 12 3 rfl ?_
   refine Rf.aW (by kernel_rfl) ?_
   refine Rf.aP [2,3,4] [0,1,2] [5] rfl ?_
   repeat refine Rf.aO ?_
   by_cases he:e0+1≤hi
   · refine Rf.bu aa 0 3 rfl ?_
     refine Rf.ah (v:=.bool false) (fun X=>bz (by omega) X) rfl ?_
     refine Rf.HY aa 3 3 rfl ?_
     exact Rf.aaa aa rfl (fun α γ w h=>⟨_,rfl,by rw [aaN hm he];exact Fv.mk (x:=.fin n9 ((b^(p-1):Nat):Int) (e0+1)) (h.r 5 rfl),h.ex⟩)
   · refine Rf.bu aa 0 3 rfl ?_
     refine Rf.ah (v:=.bool true) (fun X=>jR (by omega) X) rfl ?_
     refine Rf.bY aa 1 3 rfl ?_
     refine Rf.gU (.a [vI 2,vB n9,vN,vI 0]) rfl rfl rfl (fun _ _=>rfl) (fun α γ X=>by kernel_rfl) ?_
     refine Rf.HY aa 0 3 rfl ?_
     exact Rf.aaa aa rfl (fun α γ w h=>⟨_,rfl,by rw [aaO hm he];exact Fv.mk (x:=.inf n9) (iA _),h.ex⟩)
 · refine Rf.iB none fo rfl ?_
   refine Rf.aD aa 8 3 rfl ?_
   refine Rf.ak 3 _ _ rfl (Pl.en Tryz.func45) (fun α γ w h=>dO 3 (bI _ b p p lo hi ((p:Nat):Int) hf.r (by omega) (by omega))) ?_
   refine Rf.ak 4 _ _ rfl (Pl.en Tryz.func44) (fun α γ w h=>aU 4 (jv _ _ _ (Int.natAbs (m+1)) (b^p) (h.r 2 rfl) (h.r 3 rfl) _ rfl)) ?_
   refine Rf.dL (vF) rfl (fun α γ w h=>(fun X=>aK (fun h=>hm (by have h9:=xC.1 h;omega)) X) w) ?_
   refine Rf.aW (by kernel_rfl) ?_
   refine Rf.aP [2,3,4,17] [0,1,2] [2] rfl ?_
   refine Rf.bu aa 2 3 rfl ?_
   refine Rf.ah (v:=.bool false) (fun X=>bz (by omega) X) rfl ?_
   refine Rf.HY aa 3 3 rfl ?_
   exact Rf.aaa aa rfl (fun α γ w h=>⟨_,rfl,by rw [aaP hm hh];exact Fv.mk (x:=.fin n9 (m+1) e0) (h.r 2 rfl),h.ex⟩)
theorem Fe (w:World) (va:Value) (n9:Bool) (m e0:Int) (ha:Fv w va (.fin n9 m e0)) (b p:Nat) (lo hi:Int) (hf:fT b p lo hi) (hx:Nf b p lo m e0) (hh:e0≤hi) :
  Calls Tryz.prog 103 #[.agg #[.int .i64 ((b:Nat):Int),.int .i64 ((p:Nat):Int),.int .i64 lo,.int .i64 hi],va] w fun e w'=>∃ u,e = .returned u∧Fv w' u (nU b p lo n9 m e0)∧Pl.Ex w w':=by
 have f1:=hf.p1
 have f2:=hf.ku
 have f3:=hf.l
 have f4:=hf.l1
 have f5:=hf.h1
 obtain ⟨x1,x2,x3,x4⟩:=hx
 have hb2:=hf.b2
 have hpw:=Nat.pow_pos (n:=p) (show 0<b by omega)
 have hpq:=Nat.pow_pos (n:=p-1) (show 0<b by omega)
 have hs:Sn (mn (.fin n9 m e0)) 38:=Sn.down (bK hf.r (by omega):Sn (b^p) 38) (show m.natAbs≤b^p by omega)
 have hs1:Sn (Int.natAbs m) 38:=hs
 have hs2:Sn (Int.natAbs (m+1)) 38:=Sn.down (bK hf.r (by omega):Sn (b^p) 38) (by omega)
 obtain ⟨Aa,ca,rfl,ua⟩:=ha
 refine Rf.aA (n:=46) [.a [vI ((b:Nat):Int),vI ((p:Nat):Int),vI lo,vI hi],.a [vI 1,vB n9,.c 0 0,vI e0]] [[.slice Aa (limbs (Int.natAbs m)).length ca]] [(0,(dW (Int.natAbs m)).S)] Tryz.func103 rfl (by kernel_rfl) rfl rfl ⟨RS.in ua,trivial⟩ ?_
 refine Rf.bu aa 1 0 rfl ?_
 refine Rf.mH (e := 57) (m:=1) [.int .u32 1] 1 (dW 1) rfl rfl rfl (fun _ _=>rfl) (fun α γ X=>by kernel_rfl) rfl (fun N w k=>Un.one (x:=1) k rfl (by omega)) ?_
 refine Rf.aC 2 (dW (Int.natAbs (m-1))) (.t [.c 2 0,vT]) rfl (Pl.en Tryz.func140) (fun α γ w h=>PZ 2 (L8 _ _ _ (Int.natAbs m) 1 (h.r 0 rfl) (h.r 1 rfl) (Nat.le_trans hs1 (by decide)) true (decide_eq_true (by omega)) (Int.natAbs (m-1)) (by omega))) ?_
 refine Rf.HY aa 0 3 rfl ?_
 refine Rf.bf ?_
 repeat refine Rf.aO ?_
 by_cases hl:lo<e0
 · by_cases hg:m-1<((b^(p-1):Nat):Int)
   · refine Rf.iB none fo rfl ?_
     refine Rf.aD aa 17 3 rfl ?_
     refine Rf.dL (vT) rfl (fun α γ w h=>(fun X=>jR (by omega) X) w) ?_
     refine Rf.aD aa 17 3 rfl ?_
     refine Rf.Be (vI (((p:Nat):Int)-1)) rfl rfl rfl rfl rfl rfl rfl rfl rfl rfl (fun α γ w h=>(fun X=>eH (by omega) X) w) ?_
     refine Rf.ak 3 _ _ rfl (Pl.en Tryz.func45) (fun α γ w h=>dO 3 (bI _ b p (p-1) lo hi (((p:Nat):Int)-1) hf.r (by omega) (by omega))) ?_
     refine Rf.ak 4 _ _ rfl (Pl.en Tryz.func44) (fun α γ w h=>aU 4 (jv _ _ _ (Int.natAbs (m-1)) (b^(p-1)) (h.r 2 rfl) (h.r 3 rfl) _ rfl)) ?_
     refine Rf.dL (vT) rfl (fun α γ w h=>(fun X=>bL (je.2 (by omega)) X) w) ?_
     refine Rf.aD aa 17 3 rfl ?_
     refine Rf.aW (by kernel_rfl) ?_
     refine Rf.aP [2,3,4,13] [0,1,2] [2] rfl ?_
     refine Rf.HX aa 1 0 rfl ?_
     refine Rf.aQ none fo ?_
     refine Rf.aD aa 9 3 rfl ?_
     refine Rf.ak 5 _ _ rfl (Pl.en Tryz.func126) (fun α γ w h=>dO 5 (BS _ b p lo hi hf)) ?_
     refine Rf.aD aa 9 3 rfl ?_
     refine Rf.dL (vI (e0-1)) rfl (fun α γ w h=>(fun X=>eH (by omega) X) w) ?_
     refine Rf.aD aa 9 3 rfl ?_
     refine Rf.aW (by kernel_rfl) ?_
     refine Rf.aP [3,4] [1,2] [5] rfl ?_
     refine Rf.aZ ?_
     refine Rf.HX aa 1 3 rfl ?_
     exact Rf.aaa aa rfl (fun α γ w h=>⟨_,rfl,by rw [XZ hb2 f1 hl hg];exact Fv.mk (x:=.fin n9 (((b^p:Nat):Int)-1) (e0-1)) (h.r 5 rfl),h.ex⟩)
   · refine Rf.iB none fo rfl ?_
     refine Rf.aD aa 17 3 rfl ?_
     refine Rf.dL (vT) rfl (fun α γ w h=>(fun X=>jR (by omega) X) w) ?_
     refine Rf.aD aa 17 3 rfl ?_
     refine Rf.Be (vI (((p:Nat):Int)-1)) rfl rfl rfl rfl rfl rfl rfl rfl rfl rfl (fun α γ w h=>(fun X=>eH (by omega) X) w) ?_
     refine Rf.ak 3 _ _ rfl (Pl.en Tryz.func45) (fun α γ w h=>dO 3 (bI _ b p (p-1) lo hi (((p:Nat):Int)-1) hf.r (by omega) (by omega))) ?_
     refine Rf.ak 4 _ _ rfl (Pl.en Tryz.func44) (fun α γ w h=>aU 4 (jv _ _ _ (Int.natAbs (m-1)) (b^(p-1)) (h.r 2 rfl) (h.r 3 rfl) _ rfl)) ?_
     refine Rf.dL (vF) rfl (fun α γ w h=>(fun X=>bM (fun h=>hg (by have h9:=je.1 h;omega)) X) w) ?_
     refine Rf.aD aa 17 3 rfl ?_
     refine Rf.aW (by kernel_rfl) ?_
     refine Rf.aP [2,3,4,13] [0,1,2] [2] rfl ?_
     refine Rf.HX aa 1 0 rfl ?_
     by_cases hz:m-1=0
     · refine Rf.bu aa 0 3 rfl ?_
       refine Rf.dD ((limbs (Int.natAbs (m-1))).length) Tryz.underlying24 rfl rfl rfl rfl rfl rfl (fun w f h=>Un.jX h) ?_
       refine Rf.ah (v:=.bool true) (fun X=>aM (by rw [Int.ofNat_eq_zero,jQ];omega) X) rfl ?_
       refine Rf.bY aa 1 3 rfl ?_
       refine Rf.gU (.a [vI 0,vB n9,vN,vI 0]) rfl rfl rfl (fun _ _=>rfl) (fun α γ X=>by kernel_rfl) ?_
       refine Rf.HY aa 0 3 rfl ?_
       exact Rf.aI aa (fun _ _ h=>Pl.dG (Pl.eD h)) rfl rfl (fun α γ w h=>⟨_,rfl,by rw [Ql (fun h=>hg h.2) hz];exact Fv.mk (x:=.zero n9) (iA _),h.ex⟩)
     · refine Rf.bu aa 0 3 rfl ?_
       refine Rf.dD ((limbs (Int.natAbs (m-1))).length) Tryz.underlying24 rfl rfl rfl rfl rfl rfl (fun w f h=>Un.jX h) ?_
       refine Rf.ah (v:=.bool false) (fun X=>aK (fun h=>by rw [Int.ofNat_eq_zero,jQ] at h;omega) X) rfl ?_
       refine Rf.HY aa 2 3 rfl ?_
       refine Rf.aZ ?_
       refine Rf.HX aa 1 3 rfl ?_
       exact Rf.aaa aa rfl (fun α γ w h=>⟨_,rfl,by rw [Qm (fun h=>hg h.2) hz];exact Fv.mk (x:=.fin n9 (m-1) e0) (h.r 2 rfl),h.ex⟩)
 · refine Rf.iB none fo rfl ?_
   refine Rf.aD aa 17 3 rfl ?_
   refine Rf.dL (vF) rfl (fun α γ w h=>(fun X=>bz (by omega) X) w) ?_
   refine Rf.aD aa 17 3 rfl ?_
   refine Rf.aW (by kernel_rfl) ?_
   refine Rf.aP [2,3,4,13] [0,1,2] [2] rfl ?_
   refine Rf.HX aa 1 0 rfl ?_
   by_cases hz:m-1=0
   · refine Rf.bu aa 0 3 rfl ?_
     refine Rf.dD ((limbs (Int.natAbs (m-1))).length) Tryz.underlying24 rfl rfl rfl rfl rfl rfl (fun w f h=>Un.jX h) ?_
     refine Rf.ah (v:=.bool true) (fun X=>aM (by rw [Int.ofNat_eq_zero,jQ];omega) X) rfl ?_
     refine Rf.bY aa 1 3 rfl ?_
     refine Rf.gU (.a [vI 0,vB n9,vN,vI 0]) rfl rfl rfl (fun _ _=>rfl) (fun α γ X=>by kernel_rfl) ?_
     refine Rf.HY aa 0 3 rfl ?_
     exact Rf.aI aa (fun _ _ h=>Pl.dG (Pl.eD h)) rfl rfl (fun α γ w h=>⟨_,rfl,by rw [Ql (fun h=>hl h.1) hz];exact Fv.mk (x:=.zero n9) (iA _),h.ex⟩)
   · refine Rf.bu aa 0 3 rfl ?_
     refine Rf.dD ((limbs (Int.natAbs (m-1))).length) Tryz.underlying24 rfl rfl rfl rfl rfl rfl (fun w f h=>Un.jX h) ?_
     refine Rf.ah (v:=.bool false) (fun X=>aK (fun h=>by rw [Int.ofNat_eq_zero,jQ] at h;omega) X) rfl ?_
     refine Rf.HY aa 2 3 rfl ?_
     refine Rf.aZ ?_
     refine Rf.HX aa 1 3 rfl ?_
     exact Rf.aaa aa rfl (fun α γ w h=>⟨_,rfl,by rw [Qm (fun h=>hl h.1) hz];exact Fv.mk (x:=.fin n9 (m-1) e0) (h.r 2 rfl),h.ex⟩)
end Go.Proofs.YtgcieamfidoaoaaGreatDoor
/- Directions. -/
namespace Go.Proofs.YtgcieamfidoaoaaGreatDoor
open Go.RowKit Rf Fm
set_option maxRecDepth 100000
def GX (d:Nat) (a:Bool) (m:Int) (o g:Bool):Bool:=match d with | 0=>decide (0<m)||decide (m=0)&&o | 1=>decide (0≤m) | 2=>false | 3=>a&&!g | _=>a&&g
theorem Qo {d:Nat} (hd:d<5) (r:Rat) (o g:Bool):GX d (decide (0<r)) (yN r) o g=nR d g o r:=by
 rcases (show d=0∨d=1∨d=2∨d=3∨d=4 by omega) with rfl | rfl | rfl | rfl | rfl
 · show (decide (0<yN r)||decide (yN r=0)&&o)=_
   unfold nR yN
   by_cases h1:r<1/2
   · rw [if_pos h1];simp;grind
   · rw [if_neg h1]
     by_cases h2:r=1/2
     · rw [if_pos h2];simp [h2]
     · rw [if_neg h2];simp;grind
 · show decide (0≤yN r)=_
   unfold nR yN
   by_cases h1:r<1/2
   · rw [if_pos h1];simp;grind
   · rw [if_neg h1]
     by_cases h2:r=1/2
     · rw [if_pos h2];simp [h2]
     · rw [if_neg h2];simp;grind
 · show false=_;unfold nR;simp
 · show (decide (0<r)&&!g)=_;unfold nR;cases g<;>simp
 · show (decide (0<r)&&g)=_;unfold nR;cases g<;>simp
theorem aaQ (w:World) (a:Bool) (m:Int) (o g:Bool) (hm:0<m) :
  Calls Tryz.prog 111 #[.agg #[.bool a,.int .i64 m,.bool o,.bool g]] w fun e w'=>e = .returned (.bool (GX 0 a m o g))∧Pl.Ex w w':=by
 refine Rf.aA (n:=15) [.a [vB a,vI m,vB o,vB g]] [] [] Tryz.func111 rfl (by kernel_rfl) rfl rfl trivial ?_
 refine Rf.bu aa 1 0 rfl ?_
 refine Rf.ah (v:=.bool true) (fun X=>jR (by omega) X) rfl ?_
 refine Rf.HY aa 0 1 rfl ?_
 exact Rf.aaa aa rfl (fun α γ w h=>⟨by show _=Ending.returned (.bool (decide (0<m)||decide (m=0)&&o));rw [decide_eq_true hm];rfl,h.ex⟩)
theorem aaR (w:World) (a:Bool) (m:Int) (o g:Bool) (hm:m=0) :
  Calls Tryz.prog 111 #[.agg #[.bool a,.int .i64 m,.bool o,.bool g]] w fun e w'=>e = .returned (.bool (GX 0 a m o g))∧Pl.Ex w w':=by
 refine Rf.aA (n:=15) [.a [vB a,vI m,vB o,vB g]] [] [] Tryz.func111 rfl (by kernel_rfl) rfl rfl trivial ?_
 refine Rf.bu aa 1 0 rfl ?_
 refine Rf.ah (v:=.bool false) (fun X=>bz (by omega) X) rfl ?_
 refine Rf.ay aa 1 rfl ?_
 refine Rf.ah (v:=.bool true) (fun X=>aM (by omega) X) rfl ?_
 refine Rf.HY aa 0 1 rfl ?_
 exact Rf.aaa aa rfl (fun α γ w h=>⟨by show _=Ending.returned (.bool (decide (0<m)||decide (m=0)&&o));rw [hm];cases o<;>rfl,h.ex⟩)
theorem aaS (w:World) (a:Bool) (m:Int) (o g:Bool) (hm:m<0) :
  Calls Tryz.prog 111 #[.agg #[.bool a,.int .i64 m,.bool o,.bool g]] w fun e w'=>e = .returned (.bool (GX 0 a m o g))∧Pl.Ex w w':=by
 refine Rf.aA (n:=15) [.a [vB a,vI m,vB o,vB g]] [] [] Tryz.func111 rfl (by kernel_rfl) rfl rfl trivial ?_
 refine Rf.bu aa 1 0 rfl ?_
 refine Rf.ah (v:=.bool false) (fun X=>bz (by omega) X) rfl ?_
 refine Rf.ay aa 1 rfl ?_
 refine Rf.ah (v:=.bool false) (fun X=>aK (by omega) X) rfl ?_
 refine Rf.HY aa 0 1 rfl ?_
 exact Rf.aaa aa rfl (fun α γ w h=>⟨by show _=Ending.returned (.bool (decide (0<m)||decide (m=0)&&o));rw [decide_eq_false (show ¬ 0<m by omega),decide_eq_false (show ¬ m=0 by omega)];rfl,h.ex⟩)
theorem aaT (w:World) (a:Bool) (m:Int) (o g:Bool) (hm:0≤m) :
  Calls Tryz.prog 112 #[.agg #[.bool a,.int .i64 m,.bool o,.bool g]] w fun e w'=>e = .returned (.bool (GX 1 a m o g))∧Pl.Ex w w':=by
 refine Rf.aA (n:=6) [.a [vB a,vI m,vB o,vB g]] [] [] Tryz.func112 rfl (by kernel_rfl) rfl rfl trivial ?_
 refine Rf.bu aa 1 0 rfl ?_
 refine Rf.ah (v:=.bool true) (fun X=>bS (by omega) X) rfl ?_
 refine Rf.HY aa 0 1 rfl ?_
 exact Rf.aaa aa rfl (fun α γ w h=>⟨by show _=Ending.returned (.bool (decide (0≤m)));rw [decide_eq_true hm];rfl,h.ex⟩)
theorem aaU (w:World) (a:Bool) (m:Int) (o g:Bool) (hm:¬ 0≤m) :
  Calls Tryz.prog 112 #[.agg #[.bool a,.int .i64 m,.bool o,.bool g]] w fun e w'=>e = .returned (.bool (GX 1 a m o g))∧Pl.Ex w w':=by
 refine Rf.aA (n:=6) [.a [vB a,vI m,vB o,vB g]] [] [] Tryz.func112 rfl (by kernel_rfl) rfl rfl trivial ?_
 refine Rf.bu aa 1 0 rfl ?_
 refine Rf.ah (v:=.bool false) (fun X=>gJ (by omega) X) rfl ?_
 refine Rf.HY aa 0 1 rfl ?_
 exact Rf.aaa aa rfl (fun α γ w h=>⟨by show _=Ending.returned (.bool (decide (0≤m)));rw [decide_eq_false hm];rfl,h.ex⟩)
theorem aaV (w:World) (a:Bool) (m:Int) (o g:Bool) :
  Calls Tryz.prog 113 #[.agg #[.bool a,.int .i64 m,.bool o,.bool g]] w fun e w'=>e = .returned (.bool (GX 2 a m o g))∧Pl.Ex w w':=by
 refine Rf.aA (n:=3) [.a [vB a,vI m,vB o,vB g]] [] [] Tryz.func113 rfl (by kernel_rfl) rfl rfl trivial ?_
 refine Rf.HX aa 2 0 rfl ?_
 exact Rf.aaa aa rfl (fun α γ w h=>⟨rfl,h.ex⟩)
theorem X0 (w:World) (m:Int) (o:Bool) :
  Calls Tryz.prog 115 #[.agg #[.bool true,.int .i64 m,.bool o,.bool true]] w fun e w'=>e = .returned (.bool (GX 3 true m o true))∧Pl.Ex w w':=by
 refine Rf.aA (n:=10) [.a [vT,vI m,vB o,vT]] [] [] Tryz.func115 rfl (by kernel_rfl) rfl rfl trivial ?_
 refine Rf.bu aa 1 0 rfl ?_
 refine Rf.aV (.bool false) rfl (fun X=>aT _ X) ?_
 refine Rf.HY aa 0 1 rfl ?_
 exact Rf.aaa aa rfl (fun α γ w h=>⟨rfl,h.ex⟩)
theorem Ya (w:World) (m:Int) (o:Bool) :
  Calls Tryz.prog 115 #[.agg #[.bool true,.int .i64 m,.bool o,.bool false]] w fun e w'=>e = .returned (.bool (GX 3 true m o false))∧Pl.Ex w w':=by
 refine Rf.aA (n:=10) [.a [vT,vI m,vB o,vF]] [] [] Tryz.func115 rfl (by kernel_rfl) rfl rfl trivial ?_
 refine Rf.bu aa 1 0 rfl ?_
 refine Rf.aV (.bool true) rfl (fun X=>aT _ X) ?_
 refine Rf.HY aa 0 1 rfl ?_
 exact Rf.aaa aa rfl (fun α γ w h=>⟨rfl,h.ex⟩)
theorem aaW (w:World) (m:Int) (o g:Bool) :
  Calls Tryz.prog 115 #[.agg #[.bool false,.int .i64 m,.bool o,.bool g]] w fun e w'=>e = .returned (.bool (GX 3 false m o g))∧Pl.Ex w w':=by
 refine Rf.aA (n:=10) [.a [vF,vI m,vB o,vB g]] [] [] Tryz.func115 rfl (by kernel_rfl) rfl rfl trivial ?_
 refine Rf.HX aa 2 0 rfl ?_
 exact Rf.aaa aa rfl (fun α γ w h=>⟨rfl,h.ex⟩)
theorem Yb (w:World) (m:Int) (o:Bool) :
  Calls Tryz.prog 117 #[.agg #[.bool true,.int .i64 m,.bool o,.bool true]] w fun e w'=>e = .returned (.bool (GX 4 true m o true))∧Pl.Ex w w':=by
 refine Rf.aA (n:=9) [.a [vT,vI m,vB o,vT]] [] [] Tryz.func117 rfl (by kernel_rfl) rfl rfl trivial ?_
 refine Rf.HX aa 2 0 rfl ?_
 exact Rf.aaa aa rfl (fun α γ w h=>⟨rfl,h.ex⟩)
theorem Yc (w:World) (m:Int) (o:Bool) :
  Calls Tryz.prog 117 #[.agg #[.bool true,.int .i64 m,.bool o,.bool false]] w fun e w'=>e = .returned (.bool (GX 4 true m o false))∧Pl.Ex w w':=by
 refine Rf.aA (n:=9) [.a [vT,vI m,vB o,vF]] [] [] Tryz.func117 rfl (by kernel_rfl) rfl rfl trivial ?_
 refine Rf.HX aa 2 0 rfl ?_
 exact Rf.aaa aa rfl (fun α γ w h=>⟨rfl,h.ex⟩)
theorem aaX (w:World) (m:Int) (o g:Bool) :
  Calls Tryz.prog 117 #[.agg #[.bool false,.int .i64 m,.bool o,.bool g]] w fun e w'=>e = .returned (.bool (GX 4 false m o g))∧Pl.Ex w w':=by
 refine Rf.aA (n:=9) [.a [vF,vI m,vB o,vB g]] [] [] Tryz.func117 rfl (by kernel_rfl) rfl rfl trivial ?_
 refine Rf.HX aa 2 0 rfl ?_
 exact Rf.aaa aa rfl (fun α γ w h=>⟨rfl,h.ex⟩)
theorem NL (w:World) (a:Bool) (m:Int) (o g:Bool) :
  Calls Tryz.prog 111 #[.agg #[.bool a,.int .i64 m,.bool o,.bool g]] w fun e w'=>e = .returned (.bool (GX 0 a m o g))∧Pl.Ex w w':=by
 rcases Int.lt_trichotomy m 0 with hm | hm | hm
 · exact aaS w a m o g hm
 · exact aaR w a m o g hm
 · exact aaQ w a m o g hm
theorem NM (w:World) (a:Bool) (m:Int) (o g:Bool) :
  Calls Tryz.prog 112 #[.agg #[.bool a,.int .i64 m,.bool o,.bool g]] w fun e w'=>e = .returned (.bool (GX 1 a m o g))∧Pl.Ex w w':=by
 by_cases hm:0≤m
 · exact aaT w a m o g hm
 · exact aaU w a m o g hm
theorem NN (w:World) (a:Bool) (m:Int) (o g:Bool) :
  Calls Tryz.prog 113 #[.agg #[.bool a,.int .i64 m,.bool o,.bool g]] w fun e w'=>e = .returned (.bool (GX 2 a m o g))∧Pl.Ex w w':=by
 exact aaV w a m o g
theorem NP (w:World) (a:Bool) (m:Int) (o g:Bool) :
  Calls Tryz.prog 115 #[.agg #[.bool a,.int .i64 m,.bool o,.bool g]] w fun e w'=>e = .returned (.bool (GX 3 a m o g))∧Pl.Ex w w':=by
 cases a
 · exact aaW w m o g
 · cases g
   · exact Ya w m o
   · exact X0 w m o
theorem NQ (w:World) (a:Bool) (m:Int) (o g:Bool) :
  Calls Tryz.prog 117 #[.agg #[.bool a,.int .i64 m,.bool o,.bool g]] w fun e w'=>e = .returned (.bool (GX 4 a m o g))∧Pl.Ex w w':=by
 cases a
 · exact aaX w m o g
 · cases g
   · exact Yc w m o
   · exact Yb w m o
theorem BU (w:World) (n:Bool) :
  Calls Tryz.prog 110 #[.bool n] w fun e w'=>e = .returned (.bool true)∧Pl.Ex w w':=by
 refine Rf.aA (n:=3) [vB n] [] [] Tryz.func110 rfl (by kernel_rfl) rfl rfl trivial ?_
 refine Rf.HX aa 2 0 rfl ?_
 exact Rf.aaa aa rfl (fun α γ w h=>⟨rfl,h.ex⟩)
theorem J6 (w:World) (n:Bool) :
  Calls Tryz.prog 114 #[.bool n] w fun e w'=>e = .returned (.bool false)∧Pl.Ex w w':=by
 refine Rf.aA (n:=3) [vB n] [] [] Tryz.func114 rfl (by kernel_rfl) rfl rfl trivial ?_
 refine Rf.HX aa 2 0 rfl ?_
 exact Rf.aaa aa rfl (fun α γ w h=>⟨rfl,h.ex⟩)
theorem J7 (w:World) (n:Bool) :
  Calls Tryz.prog 118 #[.bool n] w fun e w'=>e = .returned (.bool n)∧Pl.Ex w w':=by
 refine Rf.aA (n:=4) [vB n] [] [] Tryz.func118 rfl (by kernel_rfl) rfl rfl trivial ?_
 refine Rf.HX aa 2 0 rfl ?_
 exact Rf.aaa aa rfl (fun α γ w h=>⟨rfl,h.ex⟩)
theorem Yd (w:World) :
  Calls Tryz.prog 116 #[.bool true] w fun e w'=>e = .returned (.bool false)∧Pl.Ex w w':=by
 refine Rf.aA (n:=5) [vT] [] [] Tryz.func116 rfl (by kernel_rfl) rfl rfl trivial ?_
 refine Rf.bu aa 1 0 rfl ?_
 refine Rf.aV (.bool false) rfl (fun X=>aT _ X) ?_
 refine Rf.HY aa 0 0 rfl ?_
 exact Rf.aaa aa rfl (fun α γ w h=>⟨rfl,h.ex⟩)
theorem Ye (w:World) :
  Calls Tryz.prog 116 #[.bool false] w fun e w'=>e = .returned (.bool true)∧Pl.Ex w w':=by
 refine Rf.aA (n:=5) [vF] [] [] Tryz.func116 rfl (by kernel_rfl) rfl rfl trivial ?_
 refine Rf.bu aa 1 0 rfl ?_
 refine Rf.aV (.bool true) rfl (fun X=>aT _ X) ?_
 refine Rf.HY aa 0 0 rfl ?_
 exact Rf.aaa aa rfl (fun α γ w h=>⟨rfl,h.ex⟩)
theorem J8 (w:World) (n:Bool) :
  Calls Tryz.prog 116 #[.bool n] w fun e w'=>e = .returned (.bool (!n))∧Pl.Ex w w':=by
 cases n
 · exact Ye w
 · exact Yd w
theorem pO (w:World) :
  Calls Tryz.prog 69 #[] w fun e w'=>e = .returned (.agg #[.func (.func 111) #[] #[],.func (.func 110) #[] #[],.func (.func 112) #[] #[],.func (.func 110) #[] #[],.func (.func 113) #[] #[],.func (.func 114) #[] #[],.func (.func 115) #[] #[],.func (.func 116) #[] #[],.func (.func 117) #[] #[],.func (.func 118) #[] #[]])∧Pl.Ex w w':=by
 refine Rf.aA (n:=10) [] [] [] Tryz.func69 rfl (by kernel_rfl) rfl rfl trivial ?_
 refine Rf.bu aa 2 0 rfl ?_
 refine Rf.gU (.a [.v (.func (.func 111) #[] #[]),.v (.func (.func 110) #[] #[])]) rfl rfl rfl (fun _ _=>rfl) (fun α γ X=>by kernel_rfl) ?_
 refine Rf.ay aa 1 rfl ?_
 refine Rf.gU (.a [.v (.func (.func 112) #[] #[]),.v (.func (.func 110) #[] #[])]) rfl rfl rfl (fun _ _=>rfl) (fun α γ X=>by kernel_rfl) ?_
 refine Rf.gU (.a [.v (.func (.func 113) #[] #[]),.v (.func (.func 114) #[] #[])]) rfl rfl rfl (fun _ _=>rfl) (fun α γ X=>by kernel_rfl) ?_
 refine Rf.gU (.a [.v (.func (.func 115) #[] #[]),.v (.func (.func 116) #[] #[])]) rfl rfl rfl (fun _ _=>rfl) (fun α γ X=>by kernel_rfl) ?_
 refine Rf.gU (.a [.v (.func (.func 117) #[] #[]),.v (.func (.func 118) #[] #[])]) rfl rfl rfl (fun _ _=>rfl) (fun α γ X=>by kernel_rfl) ?_
 refine Rf.gU (.a [.v (.func (.func 111) #[] #[]),.v (.func (.func 110) #[] #[]),.v (.func (.func 112) #[] #[]),.v (.func (.func 110) #[] #[]),.v (.func (.func 113) #[] #[]),.v (.func (.func 114) #[] #[]),.v (.func (.func 115) #[] #[]),.v (.func (.func 116) #[] #[]),.v (.func (.func 117) #[] #[]),.v (.func (.func 118) #[] #[])]) rfl rfl rfl (fun _ _=>rfl) (fun α γ X=>by kernel_rfl) ?_
 refine Rf.HY aa 0 1 rfl ?_
 exact Rf.aaa aa rfl (fun α γ w h=>⟨rfl,h.ex⟩)
theorem BV (w:World) (va:Value) (q:Rat) (L M:Nat) (ha:Qn w va q L M) :
  Calls Tryz.prog 70 #[va] w fun e w'=>e = .returned (.int .i64 (Int.sign (Rat.num q)))∧Pl.Ex w w':=by
 obtain ⟨Aa,ca,Ba,ba,rfl,ua,ta,za,ya⟩:=ha
 refine Rf.aA (n:=6) [.a [.c 0 0,.c 0 1,.c 0 2]] [[.bool (decide (Rat.num q<0)),.slice Aa (limbs (Rat.num q).natAbs).length ca,.slice Ba (limbs (Rat.den q)).length ba]] [(0,(pI q L M).S)] Tryz.func70 rfl (by kernel_rfl) rfl rfl ⟨RS.in ⟨Aa,ca,Ba,ba,rfl,ua,ta,za,ya⟩,trivial⟩ ?_
 refine Rf.bu aa 1 0 rfl ?_
 refine Rf.aC 1 _ _ rfl (Pl.en Tryz.func95) (fun α γ w h=>aU 1 (L9 _ _ (Rat.num q) (iW (h.r 0 rfl)).1 _ rfl)) ?_
 refine Rf.HY aa 0 1 rfl ?_
 exact Rf.aaa aa rfl (fun α γ w h=>⟨rfl,h.ex⟩)
theorem Ih (w:World) (va:Value) (q:Rat) (ha:Qn w va q 9 9) (b p:Nat) (lo hi:Int) (hf:fT b p lo hi) :
  Calls Tryz.prog 71 #[va,.agg #[.int .i64 ((b:Nat):Int),.int .i64 ((p:Nat):Int),.int .i64 lo,.int .i64 hi]] w fun e w'=>e = .returned (.int .i64 (Px b p q))∧Pl.Ex w w':=by
 rcases hf.r with rfl | rfl
 · exact Ui w va q ha p lo hi hf
 · exact Qf w va q ha p lo hi hf
end Go.Proofs.YtgcieamfidoaoaaGreatDoor
