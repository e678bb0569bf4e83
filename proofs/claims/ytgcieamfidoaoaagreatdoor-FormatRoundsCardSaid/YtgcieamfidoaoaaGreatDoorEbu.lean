/- What a float is worth. -/
import Derived.Test.YtgcieamfidoaoaaGreatDoorEbc
import Derived.Test.YtgcieamfidoaoaaGreatDoorEbt
import Derived.Test.YtgcieamfidoaoaaGreatDoorEbe
import Derived.Test.YtgcieamfidoaoaaGreatDoorEbf
import Derived.Test.YtgcieamfidoaoaaGreatDoorEat
import Derived.Test.YtgcieamfidoaoaaGreatDoorEau
import Derived.Test.YtgcieamfidoaoaaGreatDoorEax
import Derived.Test.YtgcieamfidoaoaaGreatDoorEan
import Derived.Test.YtgcieamfidoaoaaGreatDoorEav
import Derived.Laws.IdiomArrays
import Derived.WideKeyPair
import Derived.WideKeyArr2
set_option linter.all false
set_option maxHeartbeats 8000000
namespace Go.Proofs.YtgcieamfidoaoaaGreatDoor
open Go.RowKit Rf Fm
set_option maxRecDepth 100000
theorem abd {w:World} {s:Value} {n:Nat} (u:Un w s n):Zn w (.agg #[.bool false,s]) ((n:Nat):Int):=by
 obtain ⟨A,c,rfl⟩:=Un.jX u
 exact Qw u
theorem Qx {b k:Nat} {n:Bool} {m:Int} (hm:0≤m):vf b (.fin n m (k:Int))=((sg n m.natAbs*((b^k:Nat):Int):Int):Rat):=by
 have h:((m.natAbs:Nat):Int)=m:=by omega
 show sv n ((m:Rat)*bp b (k:Int))=_
 rw [ry]
 cases n with
 | false=>show (m:Rat)*_=_;rw [← Rat.intCast_mul];show _=((((m.natAbs:Nat):Int)*_:Int):Rat);rw [h]
 | true=>show -((m:Rat)*_)=_;rw [← Rat.intCast_mul,← Rat.intCast_neg];show _=((-((m.natAbs:Nat):Int)*_:Int):Rat);rw [h,Int.neg_mul]
theorem Bi {b k:Nat} {n:Bool} {m:Int} (hb:2≤b) (hm:0≤m):vf b (.fin n m (-(k:Int)))=Rat.divInt (sg n m.natAbs) ((b^k:Nat):Int):=by
 have h:((m.natAbs:Nat):Int)=m:=by omega
 have h3:bp b (-(k:Int))=(((b^k:Nat):Int):Rat)⁻¹:=by
  have hne:=Md hb (k:Int)
  have h1:=y5 hb (k:Int)
  have h2:bp b (-(k:Int))=bp b (k:Int)*bp b (-(k:Int))*(bp b (k:Int))⁻¹:=by
   rw [Rat.mul_comm (bp b (k:Int)),Rat.mul_assoc,Rat.mul_inv_cancel _ hne,Rat.mul_one]
  rw [h1,Rat.one_mul,ry] at h2
  exact h2
 rw [Rat.divInt_eq_div,Rat.div_def]
 show sv n ((m:Rat)*bp b (-(k:Int)))=_
 rw [h3]
 cases n with
 | false=>show (m:Rat)*_=((((m.natAbs:Nat):Int)):Rat)*_;rw [h]
 | true=>show -((m:Rat)*_)=((-((m.natAbs:Nat):Int):Int):Rat)*_;rw [h,Rat.intCast_neg,Rat.neg_mul]
theorem Ik (w:World) (vn vd:Value) (n:Int) (D L:Nat) (hn:Zn w vn n) (hd:Zn w vd ((D:Nat):Int)) (ln:Sz n L) (hL:L≤70) (ld:Sn D 70) (hD0:D≠0) :
  Calls Tryz.prog 52 #[vn,vd] w fun e w'=>∃ u,e = .returned (.tuple #[u,.int .i64 0])∧Qn w' u (Rat.divInt n ((D:Nat):Int)) L 70∧Pl.Ex w w':=by
 obtain ⟨An,cn,rfl,un⟩:=hn
 obtain ⟨Ad,cd,rfl,ud⟩:=hd
 rw [show decide (((D:Nat):Int)<0)=false from decide_eq_false (by omega)]
 refine Rf.aA (n:=18) [.a [.c 0 0,.c 0 1],.a [vF,.c 1 0]] [[.bool (decide (n<0)),.slice An (limbs (Int.natAbs n)).length cn],[.slice Ad (limbs D).length cd]] [(0,(Wu n).S),(1,(dW D).S)] Tryz.func52 rfl (by kernel_rfl) rfl rfl ⟨RS.in ⟨An,cn,rfl,un⟩,RS.in ud,trivial⟩ ?_
 refine Rf.bu aa 1 0 rfl ?_
 refine Rf.aC 2 _ _ rfl (Pl.en Tryz.func95) (fun α γ w h=>aU 2 (L9 _ _ ((D:Nat):Int) (abd (h.r 1 rfl)) _ rfl)) ?_
 refine Rf.ah (v:=.bool false) (fun X=>aK (fun h9=>hD0 (by have:=Int.sign_eq_zero_iff_zero.1 h9;omega)) X) rfl ?_
 refine Rf.bY aa 5 3 rfl ?_
 refine Rf.aC 3 _ _ rfl (Pl.en Tryz.func97) (fun α γ w h=>iP 3 (E9 _ _ _ n D L (h.r 0 rfl) (h.r 1 rfl) ln (by omega) ld hD0)) ?_
 refine Rf.HY aa 0 3 rfl ?_
 exact Rf.aaa aa rfl (fun α γ w h=>⟨_,rfl,(h.r 3 rfl),h.ex⟩)
theorem Yr (w:World) (va:Value) (n9:Bool) (ha:Fv w va (.zero n9)) (b p:Nat) (lo hi:Int) (hf:fT b p lo hi) :
  Calls Tryz.prog 15 #[.agg #[.int .i64 ((b:Nat):Int),.int .i64 ((p:Nat):Int),.int .i64 lo,.int .i64 hi],va] w fun e w'=>e = .returned (.bool true)∧Pl.Ex w w':=by
 obtain ⟨Aa,ca,rfl,ua⟩:=ha
 refine Rf.aA (n:=74) [.a [vI ((b:Nat):Int),vI ((p:Nat):Int),vI lo,vI hi],.a [vI 0,vB n9,.c 0 0,vI 0]] [[.slice Aa (limbs 0).length ca]] [(0,(dW 0).S)] Tryz.func15 rfl (by kernel_rfl) rfl rfl ⟨RS.in ua,trivial⟩ ?_
 refine Rf.bu aa 1 0 rfl ?_
 refine Rf.aC 1 _ _ rfl (Pl.en Tryz.func13) (fun α γ w h=>aU 1 (ig _ b p lo hi hf)) ?_
 refine Rf.aV (.bool false) rfl (fun X=>aT _ X) ?_
 refine Rf.HY aa 3 2 rfl ?_
 refine Rf.bf ?_
 refine Rf.bu aa 0 0 rfl ?_
 refine Rf.ah (v:=.bool true) (fun X=>aM (by decide) X) rfl ?_
 refine Rf.bY aa 3 2 rfl ?_
 refine Rf.dD ((limbs 0).length) Tryz.underlying24 rfl rfl rfl rfl rfl rfl (fun w f h=>Un.jX h) ?_
 refine Rf.ah (v:=.bool true) (fun X=>aM (by rw [aX];rfl) X) rfl ?_
 refine Rf.ay aa 2 rfl ?_
 refine Rf.ah (v:=.bool true) (fun X=>aM (by decide) X) rfl ?_
 refine Rf.HY aa 0 2 rfl ?_
 exact Rf.aI aa (fun _ _ h=>Pl.dG (Pl.eD h)) rfl rfl (fun α γ w h=>⟨rfl,h.ex⟩)
theorem Yt (w:World) (va:Value) (n9:Bool) (ha:Fv w va (.inf n9)) (b p:Nat) (lo hi:Int) (hf:fT b p lo hi) :
  Calls Tryz.prog 15 #[.agg #[.int .i64 ((b:Nat):Int),.int .i64 ((p:Nat):Int),.int .i64 lo,.int .i64 hi],va] w fun e w'=>e = .returned (.bool true)∧Pl.Ex w w':=by
 obtain ⟨Aa,ca,rfl,ua⟩:=ha
 refine Rf.aA (n:=74) [.a [vI ((b:Nat):Int),vI ((p:Nat):Int),vI lo,vI hi],.a [vI 2,vB n9,.c 0 0,vI 0]] [[.slice Aa (limbs 0).length ca]] [(0,(dW 0).S)] Tryz.func15 rfl (by kernel_rfl) rfl rfl ⟨RS.in ua,trivial⟩ ?_
 refine Rf.bu aa 1 0 rfl ?_
 refine Rf.aC 1 _ _ rfl (Pl.en Tryz.func13) (fun α γ w h=>aU 1 (ig _ b p lo hi hf)) ?_
 refine Rf.aV (.bool false) rfl (fun X=>aT _ X) ?_
 refine Rf.HY aa 3 2 rfl ?_
 refine Rf.bf ?_
 refine Rf.bu aa 0 0 rfl ?_
 refine Rf.ah (v:=.bool false) (fun X=>aK (by decide) X) rfl ?_
 refine Rf.bY aa 1 2 rfl ?_
 refine Rf.ah (v:=.bool true) (fun X=>aM (by decide) X) rfl ?_
 refine Rf.bY aa 1 2 rfl ?_
 refine Rf.dD ((limbs 0).length) Tryz.underlying24 rfl rfl rfl rfl rfl rfl (fun w f h=>Un.jX h) ?_
 refine Rf.ah (v:=.bool true) (fun X=>aM (by rw [aX];rfl) X) rfl ?_
 refine Rf.ay aa 2 rfl ?_
 refine Rf.ah (v:=.bool true) (fun X=>aM (by decide) X) rfl ?_
 refine Rf.HY aa 0 2 rfl ?_
 exact Rf.aI aa (fun _ _ h=>Pl.dG (Pl.eD h)) rfl rfl (fun α γ w h=>⟨rfl,h.ex⟩)
theorem Yu (w:World) (va:Value) (n9:Bool) (m e0:Int) (ha:Fv w va (.fin n9 m e0)) (b p:Nat) (lo hi:Int) (hf:fT b p lo hi) (hs0:Sn (Int.natAbs m) 38) (h1:lo≤e0) (h2:e0≤hi) (h3:0<m) (h4:m<((b^p:Nat):Int)) (h5:e0=lo) :
  Calls Tryz.prog 15 #[.agg #[.int .i64 ((b:Nat):Int),.int .i64 ((p:Nat):Int),.int .i64 lo,.int .i64 hi],va] w fun e w'=>e = .returned (.bool true)∧Pl.Ex w w':=by
 have f1:=hf.p1
 have f2:=hf.ku
 have f3:=hf.l
 have f4:=hf.l1
 have f5:=hf.h1
 obtain ⟨Aa,ca,rfl,ua⟩:=ha
 have hs:Sn (Int.natAbs m) 38:=hs0
 refine Rf.aA (n:=74) [.a [vI ((b:Nat):Int),vI ((p:Nat):Int),vI lo,vI hi],.a [vI 1,vB n9,.c 0 0,vI e0]] [[.slice Aa (limbs (Int.natAbs m)).length ca]] [(0,(dW (Int.natAbs m)).S)] Tryz.func15 rfl (by kernel_rfl) rfl rfl ⟨RS.in ua,trivial⟩ ?_
 refine Rf.bu aa 1 0 rfl ?_
 refine Rf.aC 1 _ _ rfl (Pl.en Tryz.func13) (fun α γ w h=>aU 1 (ig _ b p lo hi hf)) ?_
 refine Rf.aV (.bool false) rfl (fun X=>aT _ X) ?_
 refine Rf.HY aa 3 2 rfl ?_
 refine Rf.bf ?_
 refine Rf.bu aa 0 0 rfl ?_
 refine Rf.ah (v:=.bool false) (fun X=>aK (by decide) X) rfl ?_
 refine Rf.bY aa 1 2 rfl ?_
 refine Rf.ah (v:=.bool false) (fun X=>aK (by decide) X) rfl ?_
 refine Rf.bY aa 1 2 rfl ?_
 refine Rf.ah (v:=.bool true) (fun X=>aM (by decide) X) rfl ?_
 refine Rf.HY aa 1 2 rfl ?_
 refine Rf.aQ none fo ?_
 refine Rf.aD aa 34 2 rfl ?_
 refine Rf.ak 2 _ _ rfl (Pl.en Tryz.func43) (fun α γ w h=>aU 2 (Bj _ _ (limbs (Int.natAbs m)) (h.r 0 rfl) true (fM (Sn.le hs (by decide))))) ?_
 refine Rf.wz (.bool false) rfl rfl rfl rfl rfl rfl rfl (fun X=>aT _ X) ?_
 refine Rf.aD aa 34 2 rfl ?_
 refine Rf.Ej ((limbs (Int.natAbs m)).length) Tryz.underlying24 rfl rfl rfl rfl rfl rfl rfl rfl (fun w f h=>Un.jX h) ?_
 refine Rf.dL (vF) rfl (fun α γ w h=>(fun X=>aK (fun h=>by rw [Int.ofNat_eq_zero,jQ] at h;omega) X) w) ?_
 refine Rf.aD aa 34 2 rfl ?_
 refine Rf.dL (vF) rfl (fun α γ w h=>(fun X=>bM (by omega) X) w) ?_
 refine Rf.aD aa 34 2 rfl ?_
 refine Rf.dL (vF) rfl (fun α γ w h=>(fun X=>bz (by omega) X) w) ?_
 refine Rf.aD aa 34 2 rfl ?_
 refine Rf.ak 3 _ _ rfl (Pl.en Tryz.func45) (fun α γ w h=>dO 3 (bI _ b p p lo hi ((p:Nat):Int) hf.r (by omega) (by omega))) ?_
 refine Rf.ak 4 _ _ rfl (Pl.en Tryz.func44) (fun α γ w h=>aU 4 (jv _ _ _ (Int.natAbs m) (b^p) (h.r 0 rfl) (h.r 3 rfl) _ rfl)) ?_
 refine Rf.dL (vF) rfl (fun α γ w h=>(fun X=>gJ (fun h=>by have h9:=gW.1 h;omega) X) w) ?_
 refine Rf.aD aa 34 2 rfl ?_
 refine Rf.aW (by kernel_rfl) ?_
 refine Rf.aP [2,3,4,57] [0,1] [0] rfl ?_
 refine Rf.HX aa 2 0 rfl ?_
 refine Rf.aQ none fo ?_
 refine Rf.aD aa 17 2 rfl ?_
 refine Rf.dL (vT) rfl (fun α γ w h=>(fun X=>aM h5 X) w) ?_
 refine Rf.aD aa 17 2 rfl ?_
 refine Rf.aW (by kernel_rfl) ?_
 refine Rf.aP [4] [] [] rfl ?_
 repeat refine Rf.aO ?_
 exact Rf.aI aa (fun _ _ h=>Pl.dG (Pl.eD h)) rfl rfl (fun α γ w h=>⟨rfl,h.ex⟩)
theorem Yv (w:World) (va:Value) (n9:Bool) (m e0:Int) (ha:Fv w va (.fin n9 m e0)) (b p:Nat) (lo hi:Int) (hf:fT b p lo hi) (hs0:Sn (Int.natAbs m) 38) (h1:lo≤e0) (h2:e0≤hi) (h3:0<m) (h4:m<((b^p:Nat):Int)) (h5:¬ e0=lo) (h6:((b^(p-1):Nat):Int)≤m) :
  Calls Tryz.prog 15 #[.agg #[.int .i64 ((b:Nat):Int),.int .i64 ((p:Nat):Int),.int .i64 lo,.int .i64 hi],va] w fun e w'=>e = .returned (.bool true)∧Pl.Ex w w':=by
 have f1:=hf.p1
 have f2:=hf.ku
 have f3:=hf.l
 have f4:=hf.l1
 have f5:=hf.h1
 obtain ⟨Aa,ca,rfl,ua⟩:=ha
 have hs:Sn (Int.natAbs m) 38:=hs0
 refine Rf.aA (n:=74) [.a [vI ((b:Nat):Int),vI ((p:Nat):Int),vI lo,vI hi],.a [vI 1,vB n9,.c 0 0,vI e0]] [[.slice Aa (limbs (Int.natAbs m)).length ca]] [(0,(dW (Int.natAbs m)).S)] Tryz.func15 rfl (by kernel_rfl) rfl rfl ⟨RS.in ua,trivial⟩ ?_
 refine Rf.bu aa 1 0 rfl ?_
 refine Rf.aC 1 _ _ rfl (Pl.en Tryz.func13) (fun α γ w h=>aU 1 (ig _ b p lo hi hf)) ?_
 refine Rf.aV (.bool false) rfl (fun X=>aT _ X) ?_
 refine Rf.HY aa 3 2 rfl ?_
 refine Rf.bf ?_
 refine Rf.bu aa 0 0 rfl ?_
 refine Rf.ah (v:=.bool false) (fun X=>aK (by decide) X) rfl ?_
 refine Rf.bY aa 1 2 rfl ?_
 refine Rf.ah (v:=.bool false) (fun X=>aK (by decide) X) rfl ?_
 refine Rf.bY aa 1 2 rfl ?_
 refine Rf.ah (v:=.bool true) (fun X=>aM (by decide) X) rfl ?_
 refine Rf.HY aa 1 2 rfl ?_
 refine Rf.aQ none fo ?_
 refine Rf.aD aa 34 2 rfl ?_
 refine Rf.ak 2 _ _ rfl (Pl.en Tryz.func43) (fun α γ w h=>aU 2 (Bj _ _ (limbs (Int.natAbs m)) (h.r 0 rfl) true (fM (Sn.le hs (by decide))))) ?_
 refine Rf.wz (.bool false) rfl rfl rfl rfl rfl rfl rfl (fun X=>aT _ X) ?_
 refine Rf.aD aa 34 2 rfl ?_
 refine Rf.Ej ((limbs (Int.natAbs m)).length) Tryz.underlying24 rfl rfl rfl rfl rfl rfl rfl rfl (fun w f h=>Un.jX h) ?_
 refine Rf.dL (vF) rfl (fun α γ w h=>(fun X=>aK (fun h=>by rw [Int.ofNat_eq_zero,jQ] at h;omega) X) w) ?_
 refine Rf.aD aa 34 2 rfl ?_
 refine Rf.dL (vF) rfl (fun α γ w h=>(fun X=>bM (by omega) X) w) ?_
 refine Rf.aD aa 34 2 rfl ?_
 refine Rf.dL (vF) rfl (fun α γ w h=>(fun X=>bz (by omega) X) w) ?_
 refine Rf.aD aa 34 2 rfl ?_
 refine Rf.ak 3 _ _ rfl (Pl.en Tryz.func45) (fun α γ w h=>dO 3 (bI _ b p p lo hi ((p:Nat):Int) hf.r (by omega) (by omega))) ?_
 refine Rf.ak 4 _ _ rfl (Pl.en Tryz.func44) (fun α γ w h=>aU 4 (jv _ _ _ (Int.natAbs m) (b^p) (h.r 0 rfl) (h.r 3 rfl) _ rfl)) ?_
 refine Rf.dL (vF) rfl (fun α γ w h=>(fun X=>gJ (fun h=>by have h9:=gW.1 h;omega) X) w) ?_
 refine Rf.aD aa 34 2 rfl ?_
 refine Rf.aW (by kernel_rfl) ?_
 refine Rf.aP [2,3,4,57] [0,1] [0] rfl ?_
 refine Rf.HX aa 2 0 rfl ?_
 refine Rf.aQ none fo ?_
 refine Rf.aD aa 17 2 rfl ?_
 refine Rf.dL (vF) rfl (fun α γ w h=>(fun X=>aK h5 X) w) ?_
 refine Rf.aD aa 17 2 rfl ?_
 refine Rf.Be (vI (((p:Nat):Int)-1)) rfl rfl rfl rfl rfl rfl rfl rfl rfl rfl (fun α γ w h=>(fun X=>eH (by omega) X) w) ?_
 refine Rf.ak 5 _ _ rfl (Pl.en Tryz.func45) (fun α γ w h=>dO 5 (bI _ b p (p-1) lo hi (((p:Nat):Int)-1) hf.r (by omega) (by omega))) ?_
 refine Rf.ak 6 _ _ rfl (Pl.en Tryz.func44) (fun α γ w h=>aU 6 (jv _ _ _ (Int.natAbs m) (b^(p-1)) (h.r 0 rfl) (h.r 5 rfl) _ rfl)) ?_
 refine Rf.dL (vT) rfl (fun α γ w h=>(fun X=>bS (gW.2 (by omega)) X) w) ?_
 refine Rf.aD aa 17 2 rfl ?_
 refine Rf.aW (by kernel_rfl) ?_
 refine Rf.aP [4] [] [] rfl ?_
 repeat refine Rf.aO ?_
 exact Rf.aI aa (fun _ _ h=>Pl.dG (Pl.eD h)) rfl rfl (fun α γ w h=>⟨rfl,h.ex⟩)
theorem Qy (w:World) (va:Value) (n9:Bool) (m e0:Int) (ha:Fv w va (.fin n9 m e0)) (b p:Nat) (lo hi:Int) (hf:fT b p lo hi) (hs0:Sn (Int.natAbs m) 38) (h1:lo≤e0) (h2:e0≤hi) (h3:0<m) (h4:¬ m<((b^p:Nat):Int)) :
  Calls Tryz.prog 15 #[.agg #[.int .i64 ((b:Nat):Int),.int .i64 ((p:Nat):Int),.int .i64 lo,.int .i64 hi],va] w fun e w'=>e = .returned (.bool false)∧Pl.Ex w w':=by
 have f1:=hf.p1
 have f2:=hf.ku
 have f3:=hf.l
 have f4:=hf.l1
 have f5:=hf.h1
 obtain ⟨Aa,ca,rfl,ua⟩:=ha
 have hs:Sn (Int.natAbs m) 38:=hs0
 refine Rf.aA (n:=74) [.a [vI ((b:Nat):Int),vI ((p:Nat):Int),vI lo,vI hi],.a [vI 1,vB n9,.c 0 0,vI e0]] [[.slice Aa (limbs (Int.natAbs m)).length ca]] [(0,(dW (Int.natAbs m)).S)] Tryz.func15 rfl (by kernel_rfl) rfl rfl ⟨RS.in ua,trivial⟩ ?_
 refine Rf.bu aa 1 0 rfl ?_
 refine Rf.aC 1 _ _ rfl (Pl.en Tryz.func13) (fun α γ w h=>aU 1 (ig _ b p lo hi hf)) ?_
 refine Rf.aV (.bool false) rfl (fun X=>aT _ X) ?_
 refine Rf.HY aa 3 2 rfl ?_
 refine Rf.bf ?_
 refine Rf.bu aa 0 0 rfl ?_
 refine Rf.ah (v:=.bool false) (fun X=>aK (by decide) X) rfl ?_
 refine Rf.bY aa 1 2 rfl ?_
 refine Rf.ah (v:=.bool false) (fun X=>aK (by decide) X) rfl ?_
 refine Rf.bY aa 1 2 rfl ?_
 refine Rf.ah (v:=.bool true) (fun X=>aM (by decide) X) rfl ?_
 refine Rf.HY aa 1 2 rfl ?_
 refine Rf.aQ none fo ?_
 refine Rf.aD aa 34 2 rfl ?_
 refine Rf.ak 2 _ _ rfl (Pl.en Tryz.func43) (fun α γ w h=>aU 2 (Bj _ _ (limbs (Int.natAbs m)) (h.r 0 rfl) true (fM (Sn.le hs (by decide))))) ?_
 refine Rf.wz (.bool false) rfl rfl rfl rfl rfl rfl rfl (fun X=>aT _ X) ?_
 refine Rf.aD aa 34 2 rfl ?_
 refine Rf.Ej ((limbs (Int.natAbs m)).length) Tryz.underlying24 rfl rfl rfl rfl rfl rfl rfl rfl (fun w f h=>Un.jX h) ?_
 refine Rf.dL (vF) rfl (fun α γ w h=>(fun X=>aK (fun h=>by rw [Int.ofNat_eq_zero,jQ] at h;omega) X) w) ?_
 refine Rf.aD aa 34 2 rfl ?_
 refine Rf.dL (vF) rfl (fun α γ w h=>(fun X=>bM (by omega) X) w) ?_
 refine Rf.aD aa 34 2 rfl ?_
 refine Rf.dL (vF) rfl (fun α γ w h=>(fun X=>bz (by omega) X) w) ?_
 refine Rf.aD aa 34 2 rfl ?_
 refine Rf.ak 3 _ _ rfl (Pl.en Tryz.func45) (fun α γ w h=>dO 3 (bI _ b p p lo hi ((p:Nat):Int) hf.r (by omega) (by omega))) ?_
 refine Rf.ak 4 _ _ rfl (Pl.en Tryz.func44) (fun α γ w h=>aU 4 (jv _ _ _ (Int.natAbs m) (b^p) (h.r 0 rfl) (h.r 3 rfl) _ rfl)) ?_
 refine Rf.dL (vT) rfl (fun α γ w h=>(fun X=>bS (gW.2 (by omega)) X) w) ?_
 refine Rf.aD aa 34 2 rfl ?_
 refine Rf.aW (by kernel_rfl) ?_
 refine Rf.aP [2,3,4,57] [0,1] [0] rfl ?_
 refine Rf.HX aa 2 2 rfl ?_
 exact Rf.aI aa (fun _ _ h=>Pl.dG (Pl.eD h)) rfl rfl (fun α γ w h=>⟨rfl,h.ex⟩)
theorem Qz (w:World) (va:Value) (n9:Bool) (m e0:Int) (ha:Fv w va (.fin n9 m e0)) (b p:Nat) (lo hi:Int) (hf:fT b p lo hi) (hs0:Sn (Int.natAbs m) 38) (h1:lo≤e0) (h2:e0≤hi) (h3:0<m) (h4:m<((b^p:Nat):Int)) (h5:¬ e0=lo) (h6:¬ ((b^(p-1):Nat):Int)≤m) :
  Calls Tryz.prog 15 #[.agg #[.int .i64 ((b:Nat):Int),.int .i64 ((p:Nat):Int),.int .i64 lo,.int .i64 hi],va] w fun e w'=>e = .returned (.bool false)∧Pl.Ex w w':=by
 have f1:=hf.p1
 have f2:=hf.ku
 have f3:=hf.l
 have f4:=hf.l1
 have f5:=hf.h1
 obtain ⟨Aa,ca,rfl,ua⟩:=ha
 have hs:Sn (Int.natAbs m) 38:=hs0
 refine Rf.aA (n:=74) [.a [vI ((b:Nat):Int),vI ((p:Nat):Int),vI lo,vI hi],.a [vI 1,vB n9,.c 0 0,vI e0]] [[.slice Aa (limbs (Int.natAbs m)).length ca]] [(0,(dW (Int.natAbs m)).S)] Tryz.func15 rfl (by kernel_rfl) rfl rfl ⟨RS.in ua,trivial⟩ ?_
 refine Rf.bu aa 1 0 rfl ?_
 refine Rf.aC 1 _ _ rfl (Pl.en Tryz.func13) (fun α γ w h=>aU 1 (ig _ b p lo hi hf)) ?_
 refine Rf.aV (.bool false) rfl (fun X=>aT _ X) ?_
 refine Rf.HY aa 3 2 rfl ?_
 refine Rf.bf ?_
 refine Rf.bu aa 0 0 rfl ?_
 refine Rf.ah (v:=.bool false) (fun X=>aK (by decide) X) rfl ?_
 refine Rf.bY aa 1 2 rfl ?_
 refine Rf.ah (v:=.bool false) (fun X=>aK (by decide) X) rfl ?_
 refine Rf.bY aa 1 2 rfl ?_
 refine Rf.ah (v:=.bool true) (fun X=>aM (by decide) X) rfl ?_
 refine Rf.HY aa 1 2 rfl ?_
 refine Rf.aQ none fo ?_
 refine Rf.aD aa 34 2 rfl ?_
 refine Rf.ak 2 _ _ rfl (Pl.en Tryz.func43) (fun α γ w h=>aU 2 (Bj _ _ (limbs (Int.natAbs m)) (h.r 0 rfl) true (fM (Sn.le hs (by decide))))) ?_
 refine Rf.wz (.bool false) rfl rfl rfl rfl rfl rfl rfl (fun X=>aT _ X) ?_
 refine Rf.aD aa 34 2 rfl ?_
 refine Rf.Ej ((limbs (Int.natAbs m)).length) Tryz.underlying24 rfl rfl rfl rfl rfl rfl rfl rfl (fun w f h=>Un.jX h) ?_
 refine Rf.dL (vF) rfl (fun α γ w h=>(fun X=>aK (fun h=>by rw [Int.ofNat_eq_zero,jQ] at h;omega) X) w) ?_
 refine Rf.aD aa 34 2 rfl ?_
 refine Rf.dL (vF) rfl (fun α γ w h=>(fun X=>bM (by omega) X) w) ?_
 refine Rf.aD aa 34 2 rfl ?_
 refine Rf.dL (vF) rfl (fun α γ w h=>(fun X=>bz (by omega) X) w) ?_
 refine Rf.aD aa 34 2 rfl ?_
 refine Rf.ak 3 _ _ rfl (Pl.en Tryz.func45) (fun α γ w h=>dO 3 (bI _ b p p lo hi ((p:Nat):Int) hf.r (by omega) (by omega))) ?_
 refine Rf.ak 4 _ _ rfl (Pl.en Tryz.func44) (fun α γ w h=>aU 4 (jv _ _ _ (Int.natAbs m) (b^p) (h.r 0 rfl) (h.r 3 rfl) _ rfl)) ?_
 refine Rf.dL (vF) rfl (fun α γ w h=>(fun X=>gJ (fun h=>by have h9:=gW.1 h;omega) X) w) ?_
 refine Rf.aD aa 34 2 rfl ?_
 refine Rf.aW (by kernel_rfl) ?_
 refine Rf.aP [2,3,4,57] [0,1] [0] rfl ?_
 refine Rf.HX aa 2 0 rfl ?_
 refine Rf.aQ none fo ?_
 refine Rf.aD aa 17 2 rfl ?_
 refine Rf.dL (vF) rfl (fun α γ w h=>(fun X=>aK h5 X) w) ?_
 refine Rf.aD aa 17 2 rfl ?_
 refine Rf.Be (vI (((p:Nat):Int)-1)) rfl rfl rfl rfl rfl rfl rfl rfl rfl rfl (fun α γ w h=>(fun X=>eH (by omega) X) w) ?_
 refine Rf.ak 5 _ _ rfl (Pl.en Tryz.func45) (fun α γ w h=>dO 5 (bI _ b p (p-1) lo hi (((p:Nat):Int)-1) hf.r (by omega) (by omega))) ?_
 refine Rf.ak 6 _ _ rfl (Pl.en Tryz.func44) (fun α γ w h=>aU 6 (jv _ _ _ (Int.natAbs m) (b^(p-1)) (h.r 0 rfl) (h.r 5 rfl) _ rfl)) ?_
 refine Rf.dL (vF) rfl (fun α γ w h=>(fun X=>gJ (fun h=>h6 (by have h9:=gW.1 h;omega)) X) w) ?_
 refine Rf.aD aa 17 2 rfl ?_
 refine Rf.aW (by kernel_rfl) ?_
 refine Rf.aP [4] [] [] rfl ?_
 repeat refine Rf.aO ?_
 exact Rf.aI aa (fun _ _ h=>Pl.dG (Pl.eD h)) rfl rfl (fun α γ w h=>⟨rfl,h.ex⟩)
theorem qb {b p:Nat} {lo hi m e:Int} {n:Bool} (hf:fT b p lo hi) (h:bO b p lo hi (.fin n m e)):Sn (Int.natAbs m) 3:=aaE hf h
theorem ed (w:World) (va:Value) (x:Fl) (ha:Fv w va x) (b p:Nat) (lo hi:Int) (hf:fT b p lo hi) (hx:bO b p lo hi x) :
  Calls Tryz.prog 15 #[.agg #[.int .i64 ((b:Nat):Int),.int .i64 ((p:Nat):Int),.int .i64 lo,.int .i64 hi],va] w fun e w'=>e = .returned (.bool true)∧Pl.Ex w w':=by
 cases x with
 | zero n=>exact Yr w va n ha b p lo hi hf
 | inf n=>exact Yt w va n ha b p lo hi hf
 | fin n m e0 =>
  have hs:=Sn.le (qb hf hx) (show 3≤38 by decide)
  obtain ⟨⟨x1,x2,x3,x4⟩,x5⟩:=hx
  by_cases h:e0=lo
  · exact Yu w va n m e0 ha b p lo hi hf hs x1 x5 x2 x3 h
  · exact Yv w va n m e0 ha b p lo hi hf hs x1 x5 x2 x3 h (x4.resolve_left h)
theorem Uz (b:Nat) (n:Bool):vf b (.zero n)=(((sg n 0*((b^0:Nat):Int):Int)):Rat):=by
 rw [show sg n 0=0 by cases n<;>rfl,Int.zero_mul];rfl
theorem QA (w:World) (va:Value) (n9:Bool) (m e0:Int) (ha:Fv w va (.fin n9 m e0)) (b p:Nat) (lo hi:Int) (hf:fT b p lo hi) (hx:bO b p lo hi (.fin n9 m e0)) (h0:0≤e0) :
  Calls Tryz.prog 18 #[.agg #[.int .i64 ((b:Nat):Int),.int .i64 ((p:Nat):Int),.int .i64 lo,.int .i64 hi],va] w fun e w'=>∃ u,e = .returned (.tuple #[u,.bool true])∧Qn w' u (vf b (.fin n9 m e0)) 41 70∧Pl.Ex w w':=by
 have f1:=hf.p1
 have f2:=hf.ku
 have f3:=hf.l
 have f4:=hf.l1
 have f5:=hf.h1
 obtain ⟨k,rfl⟩:∃ k:Nat,e0=(k:Int):=⟨e0.toNat,by omega⟩
 have hm0:=hx.1.2.1
 have x1:=hx.1.1
 have x2:=hx.2
 obtain ⟨z9,GY⟩:∃ z,sg n9 (Int.natAbs m)=z:=⟨_,rfl⟩
 have lz:Sz z9 3:=by rw [← GY];show (limbs (sg n9 (Int.natAbs m)).natAbs).length≤3;rw [lZ];exact qb hf hx
 obtain ⟨Aa,ca,rfl,ua⟩:=ha
 refine Rf.aA (n:=47) [.a [vI ((b:Nat):Int),vI ((p:Nat):Int),vI lo,vI hi],.a [vI 1,vB n9,.c 0 0,vI ((k:Nat):Int)]] [[.slice Aa (limbs (Int.natAbs m)).length ca]] [(0,(dW (Int.natAbs m)).S)] Tryz.func18 rfl (by kernel_rfl) rfl rfl ⟨RS.in ua,trivial⟩ ?_
 refine Rf.bu aa 1 0 rfl ?_
 refine Rf.aC 1 _ _ rfl (Pl.en Tryz.func15) (fun α γ w h=>aU 1 (ed _ _ (.fin n9 m ((k:Nat):Int)) (Fv.mk (x:=(.fin n9 m ((k:Nat):Int))) (h.r 0 rfl)) b p lo hi hf hx)) ?_
 refine Rf.aV (.bool false) rfl (fun X=>aT _ X) ?_
 refine Rf.ay aa 3 rfl ?_
 refine Rf.ah (v:=.bool false) (fun X=>aK (by decide) X) rfl ?_
 refine Rf.bY aa 2 3 rfl ?_
 refine Rf.aC 2 _ _ rfl (Pl.en Tryz.func49) (fun α γ w h=>gz 2 (kL _ n9 _ (limbs (Int.natAbs m)) (h.r 0 rfl) _ (aJ _) z9 GY)) ?_
 refine Rf.bY aa 0 3 rfl ?_
 refine Rf.ah (v:=.bool true) (fun X=>bS (by omega) X) rfl ?_
 refine Rf.HY aa 1 0 rfl ?_
 refine Rf.aQ none fo ?_
 refine Rf.aD aa 10 4 rfl ?_
 refine Rf.ak 3 _ _ rfl (Pl.en Tryz.func45) (fun α γ w h=>dO 3 (bI _ b p k lo hi ((k:Nat):Int) hf.r (by omega) (by omega))) ?_
 refine Rf.ak 4 _ _ rfl (Pl.en Tryz.func49) (fun α γ w h=>gz 4 (kL _ false _ (limbs (b^k)) (h.r 3 rfl) _ (aJ _) (((b^k):Nat):Int) rfl)) ?_
 refine Rf.ak 5 _ _ rfl (Pl.en Tryz.func51) (fun α γ w h=>gz 5 (Um _ _ _ z9 (((b^k):Nat):Int) (h.r 2 rfl) (h.r 4 rfl) (Sz.le lz (by decide)) (Sz.le (Sn.sz (bK hf.r (by omega):Sn (b^k) 38)) (by decide)) _ rfl)) ?_
 refine Rf.ak 6 _ _ rfl (Pl.en Tryz.func50) (fun α γ w h=>iP 6 (xH _ _ (z9*(((b^k):Nat):Int)) 41 (h.r 5 rfl) (Sz.mul lz (Sn.sz (bK hf.r (by omega):Sn (b^k) 38)) (by decide):Sz (z9*(((b^k):Nat):Int)) 41))) ?_
 refine Rf.aD aa 10 4 rfl ?_
 refine Rf.aW (by kernel_rfl) ?_
 refine Rf.aP [2,3,4,5,6] [0,1,2,3] [0,2,6] rfl ?_
 exact Rf.aaa aa rfl (fun α γ w h=>⟨_,rfl,by rw [Qx (Int.le_of_lt hm0),GY];exact Qn.le (h.r 6 rfl) (by decide) (by decide),h.ex⟩)
theorem QB (w:World) (va:Value) (n9:Bool) (m e0:Int) (ha:Fv w va (.fin n9 m e0)) (b p:Nat) (lo hi:Int) (hf:fT b p lo hi) (hx:bO b p lo hi (.fin n9 m e0)) (h0:e0<0) :
  Calls Tryz.prog 18 #[.agg #[.int .i64 ((b:Nat):Int),.int .i64 ((p:Nat):Int),.int .i64 lo,.int .i64 hi],va] w fun e w'=>∃ u,e = .returned (.tuple #[u,.bool true])∧Qn w' u (vf b (.fin n9 m e0)) 41 70∧Pl.Ex w w':=by
 have f1:=hf.p1
 have f2:=hf.ku
 have f3:=hf.l
 have f4:=hf.l1
 have f5:=hf.h1
 obtain ⟨k,rfl⟩:∃ k:Nat,e0 = -(k:Int):=⟨(-e0).toNat,by omega⟩
 have hm0:=hx.1.2.1
 have x1:=hx.1.1
 have x2:=hx.2
 obtain ⟨z9,GY⟩:∃ z,sg n9 (Int.natAbs m)=z:=⟨_,rfl⟩
 have lz:Sz z9 3:=by rw [← GY];show (limbs (sg n9 (Int.natAbs m)).natAbs).length≤3;rw [lZ];exact qb hf hx
 obtain ⟨Aa,ca,rfl,ua⟩:=ha
 refine Rf.aA (n:=47) [.a [vI ((b:Nat):Int),vI ((p:Nat):Int),vI lo,vI hi],.a [vI 1,vB n9,.c 0 0,vI (-((k:Nat):Int))]] [[.slice Aa (limbs (Int.natAbs m)).length ca]] [(0,(dW (Int.natAbs m)).S)] Tryz.func18 rfl (by kernel_rfl) rfl rfl ⟨RS.in ua,trivial⟩ ?_
 refine Rf.bu aa 1 0 rfl ?_
 refine Rf.aC 1 _ _ rfl (Pl.en Tryz.func15) (fun α γ w h=>aU 1 (ed _ _ (.fin n9 m (-((k:Nat):Int))) (Fv.mk (x:=(.fin n9 m (-((k:Nat):Int)))) (h.r 0 rfl)) b p lo hi hf hx)) ?_
 refine Rf.aV (.bool false) rfl (fun X=>aT _ X) ?_
 refine Rf.ay aa 3 rfl ?_
 refine Rf.ah (v:=.bool false) (fun X=>aK (by decide) X) rfl ?_
 refine Rf.bY aa 2 3 rfl ?_
 refine Rf.aC 2 _ _ rfl (Pl.en Tryz.func49) (fun α γ w h=>gz 2 (kL _ n9 _ (limbs (Int.natAbs m)) (h.r 0 rfl) _ (aJ _) z9 GY)) ?_
 refine Rf.bY aa 0 3 rfl ?_
 refine Rf.ah (v:=.bool false) (fun X=>gJ (by omega) X) rfl ?_
 refine Rf.HY aa 2 0 rfl ?_
 refine Rf.aQ none fo ?_
 refine Rf.aD aa 14 4 rfl ?_
 refine Rf.wz (.int .i64 ((k:Nat):Int)) rfl rfl rfl rfl rfl rfl rfl (fun X=>(qY (by omega) X).trans (by rw [Int.neg_neg])) ?_
 refine Rf.ak 3 _ _ rfl (Pl.en Tryz.func45) (fun α γ w h=>dO 3 (bI _ b p k lo hi ((k:Nat):Int) hf.r (by omega) (by omega))) ?_
 refine Rf.ak 4 _ _ rfl (Pl.en Tryz.func49) (fun α γ w h=>gz 4 (kL _ false _ (limbs (b^k)) (h.r 3 rfl) _ (aJ _) (((b^k):Nat):Int) rfl)) ?_
 refine Rf.ak 5 (pI (Rat.divInt z9 ((b^k:Nat):Int)) 3 70) (.t [.a [.c 5 0,.c 5 1,.c 5 2],vI 0]) rfl (Pl.en Tryz.func52) (fun α γ w h=>nJ 5 (Ik _ _ _ z9 (b^k) 3 (h.r 2 rfl) (h.r 4 rfl) lz (by omega) (Sn.le (bK hf.r (by omega):Sn (b^k) 38) (by omega)) (Nat.pos_iff_ne_zero.1 (Nat.pow_pos (by have:=hf.b2;omega))))) ?_
 refine Rf.aD aa 14 4 rfl ?_
 refine Rf.aW (by kernel_rfl) ?_
 refine Rf.aP [4,5,7] [2,4] [5] rfl ?_
 refine Rf.HX aa 1 5 rfl ?_
 exact Rf.aaa aa rfl (fun α γ w h=>⟨_,rfl,by rw [Bi hf.b2 (Int.le_of_lt hm0),GY];exact Qn.le (h.r 5 rfl) (by decide) (by decide),h.ex⟩)
theorem QC (w:World) (va:Value) (n9:Bool) (ha:Fv w va (.zero n9)) (b p:Nat) (lo hi:Int) (hf:fT b p lo hi) :
  Calls Tryz.prog 18 #[.agg #[.int .i64 ((b:Nat):Int),.int .i64 ((p:Nat):Int),.int .i64 lo,.int .i64 hi],va] w fun e w'=>∃ u,e = .returned (.tuple #[u,.bool true])∧Qn w' u (vf b (.zero n9)) 41 70∧Pl.Ex w w':=by
 have f1:=hf.p1
 have f2:=hf.ku
 have f3:=hf.l
 have f4:=hf.l1
 have f5:=hf.h1
 obtain ⟨z9,GY⟩:∃ z,sg n9 0=z:=⟨_,rfl⟩
 have lz:Sz z9 3:=by rw [← GY];cases n9<;>exact Sz.zero
 have hx:bO b p lo hi (.zero n9):=trivial
 obtain ⟨Aa,ca,rfl,ua⟩:=ha
 refine Rf.aA (n:=47) [.a [vI ((b:Nat):Int),vI ((p:Nat):Int),vI lo,vI hi],.a [vI 0,vB n9,.c 0 0,vI 0]] [[.slice Aa (limbs 0).length ca]] [(0,(dW 0).S)] Tryz.func18 rfl (by kernel_rfl) rfl rfl ⟨RS.in ua,trivial⟩ ?_
 refine Rf.bu aa 1 0 rfl ?_
 refine Rf.aC 1 _ _ rfl (Pl.en Tryz.func15) (fun α γ w h=>aU 1 (ed _ _ (.zero n9) (Fv.mk (x:=(.zero n9)) (h.r 0 rfl)) b p lo hi hf hx)) ?_
 refine Rf.aV (.bool false) rfl (fun X=>aT _ X) ?_
 refine Rf.ay aa 3 rfl ?_
 refine Rf.ah (v:=.bool false) (fun X=>aK (by decide) X) rfl ?_
 refine Rf.bY aa 2 3 rfl ?_
 refine Rf.aC 2 _ _ rfl (Pl.en Tryz.func49) (fun α γ w h=>gz 2 (kL _ n9 _ (limbs 0) (h.r 0 rfl) _ (aJ _) z9 GY)) ?_
 refine Rf.bY aa 0 3 rfl ?_
 refine Rf.ah (v:=.bool true) (fun X=>bS (by decide) X) rfl ?_
 refine Rf.HY aa 1 0 rfl ?_
 refine Rf.aQ none fo ?_
 refine Rf.aD aa 10 4 rfl ?_
 refine Rf.ak 3 _ _ rfl (Pl.en Tryz.func45) (fun α γ w h=>dO 3 (bI _ b p 0 lo hi 0 hf.r (by omega) (by omega))) ?_
 refine Rf.ak 4 _ _ rfl (Pl.en Tryz.func49) (fun α γ w h=>gz 4 (kL _ false _ (limbs (b^0)) (h.r 3 rfl) _ (aJ _) (((b^0):Nat):Int) rfl)) ?_
 refine Rf.ak 5 _ _ rfl (Pl.en Tryz.func51) (fun α γ w h=>gz 5 (Um _ _ _ z9 (((b^0):Nat):Int) (h.r 2 rfl) (h.r 4 rfl) (Sz.le lz (by decide)) (Sz.le (Sn.sz (bK hf.r (by omega):Sn (b^0) 38)) (by decide)) _ rfl)) ?_
 refine Rf.ak 6 _ _ rfl (Pl.en Tryz.func50) (fun α γ w h=>iP 6 (xH _ _ (z9*(((b^0):Nat):Int)) 41 (h.r 5 rfl) (Sz.mul lz (Sn.sz (bK hf.r (by omega):Sn (b^0) 38)) (by decide):Sz (z9*(((b^0):Nat):Int)) 41))) ?_
 refine Rf.aD aa 10 4 rfl ?_
 refine Rf.aW (by kernel_rfl) ?_
 refine Rf.aP [2,3,4,5,6] [0,1,2,3] [0,2,6] rfl ?_
 exact Rf.aaa aa rfl (fun α γ w h=>⟨_,rfl,by rw [Uz,GY];exact Qn.le (h.r 6 rfl) (by decide) (by decide),h.ex⟩)
theorem gL (w:World) (va:Value) (x:Fl) (ha:Fv w va x) (b p:Nat) (lo hi:Int) (hf:fT b p lo hi) (hx:bO b p lo hi x) (hi0:∀ n,x≠.inf n) :
  Calls Tryz.prog 18 #[.agg #[.int .i64 ((b:Nat):Int),.int .i64 ((p:Nat):Int),.int .i64 lo,.int .i64 hi],va] w fun e w'=>∃ u,e = .returned (.tuple #[u,.bool true])∧Qn w' u (vf b x) 41 70∧Pl.Ex w w':=by
 cases x with
 | zero n=>exact QC w va n ha b p lo hi hf
 | inf n=>exact absurd rfl (hi0 n)
 | fin n m e0 =>
  by_cases h:0≤e0
  · exact QA w va n m e0 ha b p lo hi hf hx h
  · exact QB w va n m e0 ha b p lo hi hf hx (by omega)
theorem QD (w:World) (va:Value) (n9:Bool) (ha:Fv w va (.inf n9)) (b p:Nat) (lo hi:Int) (hf:fT b p lo hi) :
  Calls Tryz.prog 18 #[.agg #[.int .i64 ((b:Nat):Int),.int .i64 ((p:Nat):Int),.int .i64 lo,.int .i64 hi],va] w fun e w'=>e = .returned (.tuple #[.agg #[.bool false,.slice none 0 0,.slice none 0 0],.bool false])∧Pl.Ex w w':=by
 have hx:bO b p lo hi (.inf n9):=trivial
 obtain ⟨Aa,ca,rfl,ua⟩:=ha
 refine Rf.aA (n:=47) [.a [vI ((b:Nat):Int),vI ((p:Nat):Int),vI lo,vI hi],.a [vI 2,vB n9,.c 0 0,vI 0]] [[.slice Aa (limbs 0).length ca]] [(0,(dW 0).S)] Tryz.func18 rfl (by kernel_rfl) rfl rfl ⟨RS.in ua,trivial⟩ ?_
 refine Rf.bu aa 1 0 rfl ?_
 refine Rf.aC 1 _ _ rfl (Pl.en Tryz.func15) (fun α γ w h=>aU 1 (ed _ _ (.inf n9) (Fv.mk (x:=(.inf n9)) (h.r 0 rfl)) b p lo hi hf hx)) ?_
 refine Rf.aV (.bool false) rfl (fun X=>aT _ X) ?_
 refine Rf.ay aa 3 rfl ?_
 refine Rf.ah (v:=.bool true) (fun X=>aM (by decide) X) rfl ?_
 refine Rf.bY aa 1 3 rfl ?_
 refine Rf.gU (.a [vF,vN,vN]) rfl rfl rfl (fun _ _=>rfl) (fun α γ X=>by kernel_rfl) ?_
 refine Rf.HY aa 0 3 rfl ?_
 exact Rf.aaa aa rfl (fun α γ w h=>⟨rfl,h.ex⟩)
end Go.Proofs.YtgcieamfidoaoaaGreatDoor
/- The document: turned, alike, next, previous. -/
namespace Go.Proofs.YtgcieamfidoaoaaGreatDoor
open Go.RowKit Rf Fm
set_option maxRecDepth 100000
theorem UA {P:Program} {T:TypeId} {x y:Operand} (hu:P.underlying T=some .bool) (a b:Bool) (X:World):Pl.Bn P .eql T x y (.bool a) (.bool b) X = .ok (.bool (a==b)) X:=by
 cases a<;>cases b<;>simp [Pl.Bn,eqGuard,binOp,run_equal_bool _ _ _ _ hu]
theorem UB (w:World) (va vb:Value) (x y:Fl) (ha:Fv w va x) (hb:Fv w vb y) (hk:kd x=kd y) (hn:(ng x==ng y)=true) (hx:xp x=xp y) (hm:mn x=mn y) :
  Calls Tryz.prog 21 #[va,vb] w fun e w'=>e = .returned (.bool true)∧Pl.Ex w w':=by
 obtain ⟨Aa,ca,rfl,ua⟩:=ha
 obtain ⟨Ab,cb,rfl,ub⟩:=hb
 refine Rf.aA (n:=31) [.a [vI (kd x),vB (ng x),.c 0 0,vI (xp x)],.a [vI (kd y),vB (ng y),.c 1 0,vI (xp y)]] [[.slice Aa (limbs (mn x)).length ca],[.slice Ab (limbs (mn y)).length cb]] [(0,(dW (mn x)).S),(1,(dW (mn y)).S)] Tryz.func21 rfl (by kernel_rfl) rfl rfl ⟨RS.in ua,RS.in ub,trivial⟩ ?_
 refine Rf.bu aa 1 0 rfl ?_
 refine Rf.ah (v:=.bool true) (fun X=>aM hk X) rfl ?_
 refine Rf.ay aa 2 rfl ?_
 refine Rf.ah (v:=.bool true) (fun X=>(UA (by kernel_rfl) _ _ X).trans (by rw [hn])) rfl ?_
 refine Rf.ay aa 2 rfl ?_
 refine Rf.ah (v:=.bool true) (fun X=>aM hx X) rfl ?_
 refine Rf.ay aa 2 rfl ?_
 refine Rf.aC 2 _ _ rfl (Pl.en Tryz.func57) (fun α γ w h=>aU 2 (Yx _ _ _ (limbs (mn x)) (limbs (mn y)) (h.r 0 rfl) (h.r 1 rfl) true (decide_eq_true (congrArg limbs hm)))) ?_
 refine Rf.HY aa 0 2 rfl ?_
 exact Rf.aaa aa rfl (fun α γ w h=>⟨rfl,h.ex⟩)
theorem bH (w:World) (va vb:Value) (x y:Fl) (ha:Fv w va x) (hb:Fv w vb y) (h:x=y) :
  Calls Tryz.prog 21 #[va,vb] w fun e w'=>e = .returned (.bool true)∧Pl.Ex w w':=by
 subst h
 exact UB w va vb x x ha hb rfl (by cases ng x<;>rfl) rfl rfl
end Go.Proofs.YtgcieamfidoaoaaGreatDoor
/- Round by any direction; made rationals. -/
namespace Go.Proofs.YtgcieamfidoaoaaGreatDoor
open Go.RowKit Rf Fm
set_option maxRecDepth 100000
theorem QG (w:World) (va:Value) (q:Rat) (ha:Qn w va q 9 9) (b p:Nat) (lo hi:Int) (hf:fT b p lo hi) (d:Nat) (hd:d<5) (hq:q=0) :
  Calls Tryz.prog 30 #[va,.agg #[.int .i64 ((b:Nat):Int),.int .i64 ((p:Nat):Int),.int .i64 lo,.int .i64 hi],.int .i64 ((d:Nat):Int)] w fun e w'=>∃ u,e = .returned (.tuple #[u,.int .i64 0])∧Fv w' u (rd b p lo hi d q)∧Pl.Ex w w':=by
 obtain ⟨Aa,ca,Ba,ba,rfl,ua,ta,za,ya⟩:=ha
 have f1:=hf.p1
 have f2:=hf.ku
 have f3:=hf.l
 have f4:=hf.l1
 have f5:=hf.h1
 refine Rf.aA (n:=122) [.a [.c 0 0,.c 0 1,.c 0 2],.a [vI ((b:Nat):Int),vI ((p:Nat):Int),vI lo,vI hi],vI ((d:Nat):Int)] [[.bool (decide (Rat.num q<0)),.slice Aa (limbs (Rat.num q).natAbs).length ca,.slice Ba (limbs (Rat.den q)).length ba]] [(0,(pI q 9 9).S)] Tryz.func30 rfl (by kernel_rfl) rfl rfl ⟨RS.in ⟨Aa,ca,Ba,ba,rfl,ua,ta,za,ya⟩,trivial⟩ ?_
 refine Rf.bu aa 1 0 rfl ?_
 refine Rf.aC 1 (TR) (.a [.v (.func (.func 111) #[] #[]),.v (.func (.func 110) #[] #[]),.v (.func (.func 112) #[] #[]),.v (.func (.func 110) #[] #[]),.v (.func (.func 113) #[] #[]),.v (.func (.func 114) #[] #[]),.v (.func (.func 115) #[] #[]),.v (.func (.func 116) #[] #[]),.v (.func (.func 117) #[] #[]),.v (.func (.func 118) #[] #[])]) rfl (Pl.en Tryz.func69) (fun α γ w h=>xE (.a [.v (.func (.func 111) #[] #[]),.v (.func (.func 110) #[] #[]),.v (.func (.func 112) #[] #[]),.v (.func (.func 110) #[] #[]),.v (.func (.func 113) #[] #[]),.v (.func (.func 114) #[] #[]),.v (.func (.func 115) #[] #[]),.v (.func (.func 116) #[] #[]),.v (.func (.func 117) #[] #[]),.v (.func (.func 118) #[] #[])]) 1 (fun _ _=>rfl) (pO _)) ?_
 refine Rf.bY aa 0 3 rfl ?_
 refine Rf.aC 2 _ _ rfl (Pl.en Tryz.func13) (fun α γ w h=>aU 2 (ig _ b p lo hi hf)) ?_
 refine Rf.aV (.bool false) rfl (fun X=>aT _ X) ?_
 refine Rf.ay aa 4 rfl ?_
 refine Rf.ah (v:=.bool false) (fun X=>bM (by omega) X) rfl ?_
 refine Rf.ay aa 4 rfl ?_
 refine Rf.ah (v:=.bool false) (fun X=>gJ (by omega) X) rfl ?_
 refine Rf.bY aa 2 4 rfl ?_
 refine Rf.aC 3 _ _ rfl (Pl.en Tryz.func70) (fun α γ w h=>aU 3 (BV _ _ q 9 9 (h.r 0 rfl))) ?_
 refine Rf.ah (v:=.bool true) (fun X=>aM (by rw [hq];rfl) X) rfl ?_
 refine Rf.bY aa 1 0 rfl ?_
 refine Rf.gU (.a [vI 0,vF,vN,vI 0]) rfl rfl rfl (fun _ _=>rfl) (fun α γ X=>by kernel_rfl) ?_
 refine Rf.HY aa 0 4 rfl ?_
 exact Rf.aaa aa rfl (fun α γ w h=>⟨_,rfl,by rw [hq,uM hf.b2 hf.p1];exact Fv.mk (x:=.zero false) (iA _),h.ex⟩)
theorem aR (w:World) (va:Value) (q:Rat) (ha:Qn w va q 9 9) (b p:Nat) (lo hi:Int) (hf:fT b p lo hi) (d:Nat) (hd:d<5) :
  Calls Tryz.prog 30 #[va,.agg #[.int .i64 ((b:Nat):Int),.int .i64 ((p:Nat):Int),.int .i64 lo,.int .i64 hi],.int .i64 ((d:Nat):Int)] w fun e w'=>∃ u,e = .returned (.tuple #[u,.int .i64 0])∧Fv w' u (rd b p lo hi d q)∧Pl.Ex w w':=by
 by_cases h:q=0
 · exact QG w va q ha b p lo hi hf d hd h
 · exact Ff w va q ha b p lo hi hf d hd h
end Go.Proofs.YtgcieamfidoaoaaGreatDoor
