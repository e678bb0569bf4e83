/- Order. -/
import Derived.Test.YtgcieamfidoaoaaGreatDoorEbc
import Derived.Test.YtgcieamfidoaoaaGreatDoorEbr
import Derived.Test.YtgcieamfidoaoaaGreatDoorEaj
set_option linter.all false
set_option maxHeartbeats 8000000
namespace Go.Proofs.YtgcieamfidoaoaaGreatDoor
open Go.RowKit Rf Fm
set_option maxRecDepth 100000
def NS (a b:Int):Int:=if a≠0 then a else b
def uZ (a b c:Int):Int:=if a≠0 then a else if b≠0 then b else c
theorem Yi {a b:Int} (h:a≠0):NS a b=a:=if_pos h
theorem Qq {a b:Int} (h:¬ a≠0):NS a b=b:=if_neg h
theorem Yj {a b c:Int} (h:a≠0):uZ a b c=a:=if_pos h
theorem Yk {a b c:Int} (h:¬ a≠0) (g:b≠0):uZ a b c=b:=(if_neg h).trans (if_pos g)
theorem Qr {a b c:Int} (h:¬ a≠0) (g:¬ b≠0):uZ a b c=c:=(if_neg h).trans (if_neg g)
theorem wy (w:World) (x y:Int):Calls Tryz.prog 64 #[.int .i64 x,.int .i64 y] w fun e w'=>e = .returned (.int .i64 (bN x y))∧Pl.Ex w w' :=
 (rq w x y).mono fun e w' ⟨h1,h2⟩=>⟨h1,h2 ▸ Pl.Ex.refl w⟩
theorem ixI (N n j:Nat) (hj:j<n) (X:World):(Instr.indexAt 122 (.slice (some ⟨N,0,none⟩) n n) (.int .i64 (j:Int))).run Tryz.prog X = .ok (.pointer (some ⟨N,j,none⟩)) X:=by
 have h1:(j:Int)<(n:Int):=by omega
 have h0:(0:Int)≤(j:Int):=by omega
 go_simp
theorem ZZ {w:World} {N:Nat} {T:TypeId} {cs:List Value} {v:Value} (h:Pl.Cb w N T cs) {j:Nat} (hj:cs[j]?=some v) (X:World) (hX:Pl.Ex w X):(Instr.loadAt 3 (.pointer (some ⟨N,j,none⟩))).run Tryz.prog X = .ok v X :=
 Pl.sK (dd:=.int .i64) (by kernel_rfl) rfl ((h.ex hX).at hj)
theorem Ur (x y:Fl):NS (bN (sM x) (sM y)) (sM x*uZ (bN (kd x) (kd y)) (bN (xp x) (xp y)) (bN ((mn x:Nat):Int) ((mn y:Nat):Int)))=kJ x y:=by
 unfold NS uZ bN kJ Mc
 by_cases a1:sM x<sM y
 · simp [a1]
 · by_cases a2:sM y<sM x
   · simp [a1,a2]
   · simp only [a1,a2,if_false]
     by_cases b1:kd x<kd y
     · simp [b1]
     · by_cases b2:kd y<kd x
       · simp [b1,b2]
       · by_cases c1:xp x<xp y
         · simp [b1,b2,c1]
         · by_cases c2:xp y<xp x
           · simp [b1,b2,c1,c2]
           · by_cases d1:mn x<mn y
             · simp [b1,b2,c1,c2,d1]
             · by_cases d2:mn y<mn x<;>simp [b1,b2,c1,c2,d1,d2]
theorem Yl (x:Fl) : -1≤sM x∧sM x≤1:=by cases x<;>simp only [sM]<;>(try split)<;>omega
theorem Ym (x y:Fl) : -1≤uZ (bN (kd x) (kd y)) (bN (xp x) (xp y)) (bN ((mn x:Nat):Int) ((mn y:Nat):Int))∧uZ (bN (kd x) (kd y)) (bN (xp x) (xp y)) (bN ((mn x:Nat):Int) ((mn y:Nat):Int))≤1:=by
 have h:∀ a b:Int,-1≤bN a b∧bN a b≤1:=fun a b=>by unfold bN;split<;>(try split)<;>omega
 have h1:=h (kd x) (kd y)
 have h2:=h (xp x) (xp y)
 have h3:=h ((mn x:Nat):Int) ((mn y:Nat):Int)
 unfold uZ
 split
 · exact h1
 · split
   · exact h2
   · exact h3
theorem NT (w:World) (N:Nat) (a b:Int) (hN:Pl.Cb w N 3 [.int .i64 a,.int .i64 b]) :
  Calls Tryz.prog 63 #[.slice (some ⟨N,0,none⟩) 2 2] w fun e w'=>e = .returned (.int .i64 (NS a b))∧Pl.Ex w w':=by
 refine Rf.aA (n:=18) [.v (.slice (some ⟨N,0,none⟩) 2 2)] [] [] Tryz.func63 rfl (by kernel_rfl) rfl rfl trivial ?_
 refine Rf.bu aa 2 0 rfl ?_
 refine Rf.BO (N:=2) (c:=2) Tryz.underlying122 rfl rfl rfl rfl rfl ?_
 refine Rf.HY aa 0 0 rfl ?_
 refine Rf.bf ?_
 refine Rf.mP 2 ?_
 refine Rf.iX ?_
 refine Rf.bu aa 0 0 rfl ?_
 refine Rf.ah (v:=.bool true) (fun X=>bL (by decide) X) rfl ?_
 refine Rf.HY aa 2 0 rfl ?_
 refine Rf.bf ?_
 refine Rf.bu aa 0 0 rfl ?_
 refine Rf.wu (ixI N 2 0 (by decide)) rfl rfl rfl rfl rfl rfl ?_
 refine Rf.ww (ZZ hN (j:=0) rfl) rfl rfl rfl rfl rfl ?_
 refine Rf.HY aa 0 0 rfl ?_
 by_cases ha:a≠0
 · refine Rf.bu aa 0 0 rfl ?_
   refine Rf.ah (v:=.bool true) (fun X=>fU ha X) rfl ?_
   refine Rf.HY aa 2 0 rfl ?_
   exact Rf.aI aa (fun _ _ h=>Pl.dG (Pl.eD (Pl.sN (Pl.eD (Pl.dG (Pl.eD (h))))))) rfl rfl (fun α γ w h=>⟨by rw [Yi ha];rfl,h.ex⟩)
 · refine Rf.bu aa 0 0 rfl ?_
   refine Rf.ah (v:=.bool false) (fun X=>bE ha X) rfl ?_
   refine Rf.HY aa 2 0 rfl ?_
   refine Rf.aZ ?_
   refine Rf.bu aa 0 0 rfl ?_
   refine Rf.ah (v:=.int .i64 1) (fun X=>gB (by decide) X) rfl ?_
   refine Rf.HY aa 0 0 rfl ?_
   refine Rf.eT ?_
   refine Rf.iX ?_
   refine Rf.bu aa 0 0 rfl ?_
   refine Rf.ah (v:=.bool true) (fun X=>bL (by decide) X) rfl ?_
   refine Rf.HY aa 2 0 rfl ?_
   refine Rf.bf ?_
   refine Rf.bu aa 0 0 rfl ?_
   refine Rf.wu (ixI N 2 1 (by decide)) rfl rfl rfl rfl rfl rfl ?_
   refine Rf.ww (ZZ hN (j:=1) rfl) rfl rfl rfl rfl rfl ?_
   refine Rf.HY aa 0 0 rfl ?_
   by_cases hb:b≠0
   · refine Rf.bu aa 0 0 rfl ?_
     refine Rf.ah (v:=.bool true) (fun X=>fU hb X) rfl ?_
     refine Rf.HY aa 2 0 rfl ?_
     exact Rf.aI aa (fun _ _ h=>Pl.dG (Pl.eD (Pl.sN (Pl.eD (Pl.dG (Pl.eD (h))))))) rfl rfl (fun α γ w h=>⟨by rw [Qq ha];rfl,h.ex⟩)
   · refine Rf.bu aa 0 0 rfl ?_
     refine Rf.ah (v:=.bool false) (fun X=>bE hb X) rfl ?_
     refine Rf.HY aa 2 0 rfl ?_
     refine Rf.aZ ?_
     refine Rf.bu aa 0 0 rfl ?_
     refine Rf.ah (v:=.int .i64 2) (fun X=>gB (by decide) X) rfl ?_
     refine Rf.HY aa 0 0 rfl ?_
     refine Rf.eT ?_
     refine Rf.ru ?_
     refine Rf.bu aa 0 0 rfl ?_
     refine Rf.ah (v:=.bool false) (fun X=>bM (by decide) X) rfl ?_
     refine Rf.HY aa 1 0 rfl ?_
     refine Rf.og ?_
     refine Rf.HX aa 1 0 rfl ?_
     exact Rf.aaa aa rfl (fun α γ w h=>⟨by rw [Qq ha,show b=0 from Decidable.not_not.1 hb];rfl,h.ex⟩)
theorem NU (w:World) (N:Nat) (a b c:Int) (hN:Pl.Cb w N 3 [.int .i64 a,.int .i64 b,.int .i64 c]) :
  Calls Tryz.prog 63 #[.slice (some ⟨N,0,none⟩) 3 3] w fun e w'=>e = .returned (.int .i64 (uZ a b c))∧Pl.Ex w w':=by
 refine Rf.aA (n:=18) [.v (.slice (some ⟨N,0,none⟩) 3 3)] [] [] Tryz.func63 rfl (by kernel_rfl) rfl rfl trivial ?_
 refine Rf.bu aa 2 0 rfl ?_
 refine Rf.BO (N:=3) (c:=3) Tryz.underlying122 rfl rfl rfl rfl rfl ?_
 refine Rf.HY aa 0 0 rfl ?_
 refine Rf.bf ?_
 refine Rf.mP 3 ?_
 refine Rf.iX ?_
 refine Rf.bu aa 0 0 rfl ?_
 refine Rf.ah (v:=.bool true) (fun X=>bL (by decide) X) rfl ?_
 refine Rf.HY aa 2 0 rfl ?_
 refine Rf.bf ?_
 refine Rf.bu aa 0 0 rfl ?_
 refine Rf.wu (ixI N 3 0 (by decide)) rfl rfl rfl rfl rfl rfl ?_
 refine Rf.ww (ZZ hN (j:=0) rfl) rfl rfl rfl rfl rfl ?_
 refine Rf.HY aa 0 0 rfl ?_
 by_cases ha:a≠0
 · refine Rf.bu aa 0 0 rfl ?_
   refine Rf.ah (v:=.bool true) (fun X=>fU ha X) rfl ?_
   refine Rf.HY aa 2 0 rfl ?_
   exact Rf.aI aa (fun _ _ h=>Pl.dG (Pl.eD (Pl.sN (Pl.eD (Pl.dG (Pl.eD (h))))))) rfl rfl (fun α γ w h=>⟨by rw [Yj ha];rfl,h.ex⟩)
 · refine Rf.bu aa 0 0 rfl ?_
   refine Rf.ah (v:=.bool false) (fun X=>bE ha X) rfl ?_
   refine Rf.HY aa 2 0 rfl ?_
   refine Rf.aZ ?_
   refine Rf.bu aa 0 0 rfl ?_
   refine Rf.ah (v:=.int .i64 1) (fun X=>gB (by decide) X) rfl ?_
   refine Rf.HY aa 0 0 rfl ?_
   refine Rf.eT ?_
   refine Rf.iX ?_
   refine Rf.bu aa 0 0 rfl ?_
   refine Rf.ah (v:=.bool true) (fun X=>bL (by decide) X) rfl ?_
   refine Rf.HY aa 2 0 rfl ?_
   refine Rf.bf ?_
   refine Rf.bu aa 0 0 rfl ?_
   refine Rf.wu (ixI N 3 1 (by decide)) rfl rfl rfl rfl rfl rfl ?_
   refine Rf.ww (ZZ hN (j:=1) rfl) rfl rfl rfl rfl rfl ?_
   refine Rf.HY aa 0 0 rfl ?_
   by_cases hb:b≠0
   · refine Rf.bu aa 0 0 rfl ?_
     refine Rf.ah (v:=.bool true) (fun X=>fU hb X) rfl ?_
     refine Rf.HY aa 2 0 rfl ?_
     exact Rf.aI aa (fun _ _ h=>Pl.dG (Pl.eD (Pl.sN (Pl.eD (Pl.dG (Pl.eD (h))))))) rfl rfl (fun α γ w h=>⟨by rw [Yk ha hb];rfl,h.ex⟩)
   · refine Rf.bu aa 0 0 rfl ?_
     refine Rf.ah (v:=.bool false) (fun X=>bE hb X) rfl ?_
     refine Rf.HY aa 2 0 rfl ?_
     refine Rf.aZ ?_
     refine Rf.bu aa 0 0 rfl ?_
     refine Rf.ah (v:=.int .i64 2) (fun X=>gB (by decide) X) rfl ?_
     refine Rf.HY aa 0 0 rfl ?_
     refine Rf.eT ?_
     refine Rf.iX ?_
     refine Rf.bu aa 0 0 rfl ?_
     refine Rf.ah (v:=.bool true) (fun X=>bL (by decide) X) rfl ?_
     refine Rf.HY aa 2 0 rfl ?_
     refine Rf.bf ?_
     refine Rf.bu aa 0 0 rfl ?_
     refine Rf.wu (ixI N 3 2 (by decide)) rfl rfl rfl rfl rfl rfl ?_
     refine Rf.ww (ZZ hN (j:=2) rfl) rfl rfl rfl rfl rfl ?_
     refine Rf.HY aa 0 0 rfl ?_
     by_cases hc:c≠0
     · refine Rf.bu aa 0 0 rfl ?_
       refine Rf.ah (v:=.bool true) (fun X=>fU hc X) rfl ?_
       refine Rf.HY aa 2 0 rfl ?_
       exact Rf.aI aa (fun _ _ h=>Pl.dG (Pl.eD (Pl.sN (Pl.eD (Pl.dG (Pl.eD (h))))))) rfl rfl (fun α γ w h=>⟨by rw [Qr ha hb];rfl,h.ex⟩)
     · refine Rf.bu aa 0 0 rfl ?_
       refine Rf.ah (v:=.bool false) (fun X=>bE hc X) rfl ?_
       refine Rf.HY aa 2 0 rfl ?_
       refine Rf.aZ ?_
       refine Rf.bu aa 0 0 rfl ?_
       refine Rf.ah (v:=.int .i64 3) (fun X=>gB (by decide) X) rfl ?_
       refine Rf.HY aa 0 0 rfl ?_
       refine Rf.eT ?_
       refine Rf.ru ?_
       refine Rf.bu aa 0 0 rfl ?_
       refine Rf.ah (v:=.bool false) (fun X=>bM (by decide) X) rfl ?_
       refine Rf.HY aa 1 0 rfl ?_
       refine Rf.og ?_
       refine Rf.HX aa 1 0 rfl ?_
       exact Rf.aaa aa rfl (fun α γ w h=>⟨by rw [Qr ha hb,show c=0 from Decidable.not_not.1 hc];rfl,h.ex⟩)
theorem Us (w:World) (va:Value) (n9:Bool) (ha:Fv w va (.zero n9)) :
  Calls Tryz.prog 62 #[va] w fun e w'=>e = .returned (.int .i64 (sM (.zero n9)))∧Pl.Ex w w':=by
 obtain ⟨Aa,ca,rfl,ua⟩:=ha
 refine Rf.aA (n:=10) [.a [vI 0,vB n9,.c 0 0,vI 0]] [[.slice Aa (limbs 0).length ca]] [(0,(dW 0).S)] Tryz.func62 rfl (by kernel_rfl) rfl rfl ⟨RS.in ua,trivial⟩ ?_
 refine Rf.HX aa 1 0 rfl ?_
 refine Rf.bf ?_
 refine Rf.bu aa 0 1 rfl ?_
 refine Rf.ah (v:=.bool true) (fun X=>aM (by decide) X) rfl ?_
 refine Rf.HY aa 2 1 rfl ?_
 exact Rf.aI aa (fun _ _ h=>Pl.dG (Pl.eD h)) rfl rfl (fun α γ w h=>⟨rfl,h.ex⟩)
theorem Qs (w:World) (va:Value) (m e0:Int) (ha:Fv w va (.fin true m e0)) :
  Calls Tryz.prog 62 #[va] w fun e w'=>e = .returned (.int .i64 (sM (.fin true m e0)))∧Pl.Ex w w':=by
 obtain ⟨Aa,ca,rfl,ua⟩:=ha
 refine Rf.aA (n:=10) [.a [vI 1,vT,.c 0 0,vI e0]] [[.slice Aa (limbs (Int.natAbs m)).length ca]] [(0,(dW (Int.natAbs m)).S)] Tryz.func62 rfl (by kernel_rfl) rfl rfl ⟨RS.in ua,trivial⟩ ?_
 refine Rf.HX aa 1 0 rfl ?_
 refine Rf.bf ?_
 refine Rf.bu aa 0 1 rfl ?_
 refine Rf.ah (v:=.bool false) (fun X=>aK (by decide) X) rfl ?_
 refine Rf.HY aa 4 1 rfl ?_
 exact Rf.aI aa (fun _ _ h=>Pl.dG (Pl.eD h)) rfl rfl (fun α γ w h=>⟨rfl,h.ex⟩)
theorem Qt (w:World) (va:Value) (m e0:Int) (ha:Fv w va (.fin false m e0)) :
  Calls Tryz.prog 62 #[va] w fun e w'=>e = .returned (.int .i64 (sM (.fin false m e0)))∧Pl.Ex w w':=by
 obtain ⟨Aa,ca,rfl,ua⟩:=ha
 refine Rf.aA (n:=10) [.a [vI 1,vF,.c 0 0,vI e0]] [[.slice Aa (limbs (Int.natAbs m)).length ca]] [(0,(dW (Int.natAbs m)).S)] Tryz.func62 rfl (by kernel_rfl) rfl rfl ⟨RS.in ua,trivial⟩ ?_
 refine Rf.HX aa 1 0 rfl ?_
 refine Rf.bf ?_
 refine Rf.bu aa 0 1 rfl ?_
 refine Rf.ah (v:=.bool false) (fun X=>aK (by decide) X) rfl ?_
 refine Rf.HY aa 4 1 rfl ?_
 refine Rf.aZ ?_
 refine Rf.HX aa 1 1 rfl ?_
 exact Rf.aaa aa rfl (fun α γ w h=>⟨rfl,h.ex⟩)
theorem Qu (w:World) (va:Value) (ha:Fv w va (.inf true)) :
  Calls Tryz.prog 62 #[va] w fun e w'=>e = .returned (.int .i64 (sM (.inf true)))∧Pl.Ex w w':=by
 obtain ⟨Aa,ca,rfl,ua⟩:=ha
 refine Rf.aA (n:=10) [.a [vI 2,vT,.c 0 0,vI 0]] [[.slice Aa (limbs 0).length ca]] [(0,(dW 0).S)] Tryz.func62 rfl (by kernel_rfl) rfl rfl ⟨RS.in ua,trivial⟩ ?_
 refine Rf.HX aa 1 0 rfl ?_
 refine Rf.bf ?_
 refine Rf.bu aa 0 1 rfl ?_
 refine Rf.ah (v:=.bool false) (fun X=>aK (by decide) X) rfl ?_
 refine Rf.HY aa 4 1 rfl ?_
 exact Rf.aI aa (fun _ _ h=>Pl.dG (Pl.eD h)) rfl rfl (fun α γ w h=>⟨rfl,h.ex⟩)
theorem Qv (w:World) (va:Value) (ha:Fv w va (.inf false)) :
  Calls Tryz.prog 62 #[va] w fun e w'=>e = .returned (.int .i64 (sM (.inf false)))∧Pl.Ex w w':=by
 obtain ⟨Aa,ca,rfl,ua⟩:=ha
 refine Rf.aA (n:=10) [.a [vI 2,vF,.c 0 0,vI 0]] [[.slice Aa (limbs 0).length ca]] [(0,(dW 0).S)] Tryz.func62 rfl (by kernel_rfl) rfl rfl ⟨RS.in ua,trivial⟩ ?_
 refine Rf.HX aa 1 0 rfl ?_
 refine Rf.bf ?_
 refine Rf.bu aa 0 1 rfl ?_
 refine Rf.ah (v:=.bool false) (fun X=>aK (by decide) X) rfl ?_
 refine Rf.HY aa 4 1 rfl ?_
 refine Rf.aZ ?_
 refine Rf.HX aa 1 1 rfl ?_
 exact Rf.aaa aa rfl (fun α γ w h=>⟨rfl,h.ex⟩)
theorem zU (w:World) (va:Value) (x:Fl) (ha:Fv w va x) :
  Calls Tryz.prog 62 #[va] w fun e w'=>e = .returned (.int .i64 (sM x))∧Pl.Ex w w':=by
 cases x with
 | zero n=>exact Us w va n ha
 | fin n m e0 =>
  cases n
  · exact Qt w va m e0 ha
  · exact Qs w va m e0 ha
 | inf n =>
  cases n
  · exact Qv w va ha
  · exact Qu w va ha
theorem Yn {a b:Int} (h1 : -1≤a∧a≤1) (h2 : -1≤b∧b≤1) : -9223372036854775808≤a*b∧a*b≤9223372036854775807:=by
 rcases (show a = -1∨a=0∨a=1 by omega) with rfl | rfl | rfl<;>omega
theorem dN (w:World) (va vb:Value) (x y:Fl) (ha:Fv w va x) (hb:Fv w vb y) (b p:Nat) (lo hi:Int) :
  Calls Tryz.prog 26 #[.agg #[.int .i64 ((b:Nat):Int),.int .i64 ((p:Nat):Int),.int .i64 lo,.int .i64 hi],va,vb] w fun e w'=>e = .returned (.int .i64 (kJ x y))∧Pl.Ex w w':=by
 have hs1:=Yl x
 have hs2:=Ym x y
 obtain ⟨Aa,ca,rfl,ua⟩:=ha
 obtain ⟨Ab,cb,rfl,ub⟩:=hb
 refine Rf.aA (n:=37) [.a [vI ((b:Nat):Int),vI ((p:Nat):Int),vI lo,vI hi],.a [vI (kd x),vB (ng x),.c 0 0,vI (xp x)],.a [vI (kd y),vB (ng y),.c 1 0,vI (xp y)]] [[.slice Aa (limbs (mn x)).length ca],[.slice Ab (limbs (mn y)).length cb]] [(0,(dW (mn x)).S),(1,(dW (mn y)).S)] Tryz.func26 rfl (by kernel_rfl) rfl rfl ⟨RS.in ua,RS.in ub,trivial⟩ ?_
 refine Rf.bu aa 1 0 rfl ?_
 refine Rf.aC 2 _ _ rfl (Pl.en Tryz.func62) (fun α γ w h=>aU 2 (zU _ _ x (Fv.mk (x:=x) (h.r 0 rfl)))) ?_
 refine Rf.HY aa 0 3 rfl ?_
 refine Rf.aQ none fo ?_
 refine Rf.aD aa 18 3 rfl ?_
 refine Rf.ak 3 _ _ rfl (Pl.en Tryz.func64) (fun α γ w h=>aU 3 (wy _ (kd x) (kd y))) ?_
 refine Rf.aD aa 18 3 rfl ?_
 refine Rf.ak 4 _ _ rfl (Pl.en Tryz.func64) (fun α γ w h=>aU 4 (wy _ (xp x) (xp y))) ?_
 refine Rf.aD aa 18 3 rfl ?_
 refine Rf.ak 5 _ _ rfl (Pl.en Tryz.func44) (fun α γ w h=>aU 5 (jv _ _ _ (mn x) (mn y) (h.r 0 rfl) (h.r 1 rfl) _ rfl)) ?_
 refine Rf.aa6 (e := 3) (m:=3) [.int .i64 (bN (kd x) (kd y)),.int .i64 (bN (xp x) (xp y)),.int .i64 (bN (((mn x):Nat):Int) (((mn y):Nat):Int))] 6 rfl rfl [15,20,25] rfl rfl rfl (fun _ _=>rfl) (fun α γ X=>by kernel_rfl) ?_
 refine Rf.ak 7 (TR) (vI (uZ (bN (kd x) (kd y)) (bN (xp x) (xp y)) (bN (((mn x):Nat):Int) (((mn y):Nat):Int)))) rfl (Pl.en Tryz.func63) (fun α γ w h=>by obtain ⟨N,e1,-,hN⟩:=h.fact 6 _ rfl;show Calls _ _ #[γ 6 0] _ _;rw [e1];exact aU 7 (NU _ N (bN (kd x) (kd y)) (bN (xp x) (xp y)) (bN (((mn x):Nat):Int) (((mn y):Nat):Int)) hN)) ?_
 refine Rf.aD aa 18 3 rfl ?_
 refine Rf.aW (by kernel_rfl) ?_
 refine Rf.aP [5,6,7,8] [2] [1] rfl ?_
 refine Rf.bu aa 0 3 rfl ?_
 refine Rf.aC 8 _ _ rfl (Pl.en Tryz.func62) (fun α γ w h=>aU 8 (zU _ _ y (Fv.mk (x:=y) (h.r 1 rfl)))) ?_
 refine Rf.aC 9 _ _ rfl (Pl.en Tryz.func64) (fun α γ w h=>aU 9 (wy _ (sM x) (sM y))) ?_
 have hs3 : -9223372036854775808≤((sM x)*(uZ (bN (kd x) (kd y)) (bN (xp x) (xp y)) (bN (((mn x):Nat):Int) (((mn y):Nat):Int))))∧((sM x)*(uZ (bN (kd x) (kd y)) (bN (xp x) (xp y)) (bN (((mn x):Nat):Int) (((mn y):Nat):Int))))≤9223372036854775807:=Yn hs1 hs2
 refine Rf.ay aa 3 rfl ?_
 refine Rf.ah (v:=.int .i64 ((sM x)*(uZ (bN (kd x) (kd y)) (bN (xp x) (xp y)) (bN (((mn x):Nat):Int) (((mn y):Nat):Int))))) (fun X=>Qd hs3 X) rfl ?_
 refine Rf.Yo (e := 3) (m:=2) [.int .i64 (bN (sM x) (sM y)),.int .i64 ((sM x)*(uZ (bN (kd x) (kd y)) (bN (xp x) (xp y)) (bN (((mn x):Nat):Int) (((mn y):Nat):Int))))] 10 rfl rfl rfl (fun _ _=>rfl) (fun α γ X=>by kernel_rfl) rfl ?_
 refine Rf.aC 11 (TR) (vI (NS (bN (sM x) (sM y)) ((sM x)*(uZ (bN (kd x) (kd y)) (bN (xp x) (xp y)) (bN (((mn x):Nat):Int) (((mn y):Nat):Int)))))) rfl (Pl.en Tryz.func63) (fun α γ w h=>by obtain ⟨N,e1,-,hN⟩:=h.fact 10 _ rfl;show Calls _ _ #[γ 10 0] _ _;rw [e1];exact aU 11 (NT _ N (bN (sM x) (sM y)) ((sM x)*(uZ (bN (kd x) (kd y)) (bN (xp x) (xp y)) (bN (((mn x):Nat):Int) (((mn y):Nat):Int)))) hN)) ?_
 refine Rf.HY aa 0 3 rfl ?_
 exact Rf.aaa aa rfl (fun α γ w h=>⟨by rw [← Ur x y];rfl,h.ex⟩)
end Go.Proofs.YtgcieamfidoaoaaGreatDoor
/- The float beside another one. -/
namespace Go.Proofs.YtgcieamfidoaoaaGreatDoor
open Go.RowKit Rf Fm
set_option maxRecDepth 100000
def tF (t:Bool) (x:Fl):Fl:=if t then x.turn else x
theorem aa7 (t:Bool) (x:Fl):kd (tF t x)=kd x:=by cases t<;>cases x<;>rfl
theorem aa8 (t:Bool) (x:Fl):ng (tF t x)=(ng x != t):=by cases t<;>cases x<;>simp [tF,Fl.turn,ng]
theorem aa9 (t:Bool) (x:Fl):mn (tF t x)=mn x:=by cases t<;>cases x<;>rfl
theorem aa' (t:Bool) (x:Fl):xp (tF t x)=xp x:=by cases t<;>cases x<;>rfl
theorem Ut {w:World} {s:Value} {t:Bool} {x:Fl} (u:Un w s (mn x)):Fv w (.agg #[.int .i64 (kd x),.bool (ng x != t),s,.int .i64 (xp x)]) (tF t x):=by
 have h:=Fv.mk (w:=w) (s:=s) (x:=tF t x) (by rw [aa9];exact u)
 rw [aa7,aa8,aa'] at h
 exact h
theorem aba {b p:Nat} {lo hi:Int} {x:Fl} (t:Bool) (h:bO b p lo hi x):bO b p lo hi (tF t x):=by cases t;exact h;exact h.turn
theorem Uu {P:Program} {T:TypeId} {x y:Operand} (hu:P.underlying T=some .bool) (a b:Bool) (X:World):Pl.Bn P .neq T x y (.bool a) (.bool b) X = .ok (.bool (a != b)) X:=by
 cases a<;>cases b<;>simp [Pl.Bn,eqGuard,binOp,run_equal_bool _ _ _ _ hu]
theorem ldB {w:World} {N:Nat} {T:TypeId} {cs:List Value} {v:Bool} (h:Pl.Cb w N T cs) {j:Nat} (hj:cs[j]?=some (.bool v)) (X:World) (hX:Pl.Ex w X):(Instr.loadAt 4 (.pointer (some ⟨N,j,none⟩))).run Tryz.prog X = .ok (.bool v) X :=
 Pl.sK (dd:=.bool) (by kernel_rfl) rfl ((h.ex hX).at hj)
theorem DN {w:World} {N:Nat} {T:TypeId} {cs:List Value} {v:Value} (h:Pl.Cb w N T cs) {j:Nat} (hj:cs[j]?=some v) (X:World) (hX:Pl.Ex w X):(Instr.loadAt 62 (.pointer (some ⟨N,j,none⟩))).run Tryz.prog X = .ok v X :=
 Pl.sK Tryz.underlying62 rfl ((h.ex hX).at hj)
theorem Kc {w:World} {N:Nat} {T:TypeId} {b p:Nat} {lo hi:Int} (h:Pl.Cb w N T [.int .i64 ((b:Nat):Int),.int .i64 ((p:Nat):Int),.int .i64 lo,.int .i64 hi]) (X:World) (hX:Pl.Ex w X):(Instr.loadAt 23 (.pointer (some ⟨N,0,none⟩))).run Tryz.prog X = .ok (.agg #[.int .i64 ((b:Nat):Int),.int .i64 ((p:Nat):Int),.int .i64 lo,.int .i64 hi]) X :=
 (h.ex hX).load (o:=0) (part:=[.int .i64 ((b:Nat):Int),.int .i64 ((p:Nat):Int),.int .i64 lo,.int .i64 hi]) rfl Tryz.underlying23 rfl (by kernel_rfl)
theorem iN (w:World) (vv:Value) (x:Fl) (N3:Nat) (t9:Bool) (hv:Fv w vv x) (h3:Pl.Cb w N3 4 [.bool t9]) :
  Calls Tryz.prog 101 #[vv,.pointer (some ⟨N3,0,none⟩)] w fun e w'=>∃ u,e = .returned u∧Fv w' u (tF t9 x)∧Pl.Ex w w':=by
 obtain ⟨Av,cv,rfl,uv⟩:=hv
 refine Rf.aA (n:=10) [.a [vI (kd x),vB (ng x),.c 0 0,vI (xp x)],.v (.pointer (some ⟨N3,0,none⟩))] [[.slice Av (limbs (mn x)).length cv]] [(0,(dW (mn x)).S)] Tryz.func101 rfl (by kernel_rfl) rfl rfl ⟨RS.in uv,trivial⟩ ?_
 refine Rf.bu aa 1 0 rfl ?_
 refine Rf.kV (vB t9) (fun α γ X hX=>ldB h3 (j:=0) rfl X hX) rfl rfl rfl rfl rfl ?_
 refine Rf.ah (v:=.bool (ng x != t9)) (fun X=>Uu (by kernel_rfl) _ _ X) rfl ?_
 refine Rf.HY aa 1 2 rfl ?_
 exact Rf.aaa aa rfl (fun α γ w h=>⟨_,rfl,Ut (h.r 0 rfl),h.ex⟩)
theorem Yp (w:World) (vv:Value) (x:Fl) (hv:Fv w vv x) (b p:Nat) (lo hi:Int) (hf:fT b p lo hi) (N1 N2 N3:Nat) (t9:Bool) (h1:Pl.Cb w N1 62 [.func (.func 101) #[] #[.pointer (some ⟨N3,0,none⟩)]]) (h2:Pl.Cb w N2 23 [.int .i64 ((b:Nat):Int),.int .i64 ((p:Nat):Int),.int .i64 lo,.int .i64 hi]) (h3:Pl.Cb w N3 4 [.bool t9]) (n9:Bool) (hy:tF t9 x = .zero n9) (hx:bO b p lo hi (.zero n9)) :
  Calls Tryz.prog 102 #[vv,.pointer (some ⟨N1,0,none⟩),.pointer (some ⟨N2,0,none⟩)] w fun e w'=>∃ u,e = .returned u∧Fv w' u (tF t9 (fE b p lo hi (.zero n9)))∧Pl.Ex w w':=by
 have f1:=hf.p1
 have f2:=hf.ku
 have f3:=hf.l
 have f4:=hf.l1
 have f5:=hf.h1
 obtain ⟨Av,cv,rfl,uv⟩:=hv
 refine Rf.aA (n:=47) [.a [vI (kd x),vB (ng x),.c 0 0,vI (xp x)],.v (.pointer (some ⟨N1,0,none⟩)),.v (.pointer (some ⟨N2,0,none⟩))] [[.slice Av (limbs (mn x)).length cv]] [(0,(dW (mn x)).S)] Tryz.func102 rfl (by kernel_rfl) rfl rfl ⟨RS.in uv,trivial⟩ ?_
 refine Rf.bu aa 1 0 rfl ?_
 refine Rf.kV (.f 101 [] [.v (.pointer (some ⟨N3,0,none⟩))]) (fun α γ X hX=>DN h1 (j:=0) rfl X hX) rfl rfl rfl rfl rfl ?_
 refine Rf.ay aa 2 rfl ?_
 refine Rf.kS 1 _ (.a [vI 0,vB n9,.c 1 0,vI 0]) rfl rfl rfl rfl rfl rfl rfl (Pl.en Tryz.func101) (fun α γ w h=>fC 1 (by have h9:=iN _ _ x N3 t9 (Fv.mk (x:=x) (h.r 0 rfl)) (h3.ex h.ex);rw [hy] at h9;exact h9)) ?_
 refine Rf.HY aa 0 2 rfl ?_
 refine Rf.bf ?_
 refine Rf.bu aa 0 2 rfl ?_
 refine Rf.ah (v:=.bool true) (fun X=>aM (by decide) X) rfl ?_
 refine Rf.bY aa 1 2 rfl ?_
 refine Rf.mH (e := 57) (m:=1) [.int .u32 1] 2 (dW 1) rfl rfl rfl (fun _ _=>rfl) (fun α γ X=>by kernel_rfl) rfl (fun N w k=>Un.one (x:=1) k rfl (by omega)) ?_
 refine Rf.aaH aa (q':=2) rfl rfl rfl rfl rfl rfl rfl ?_
 refine Rf.kV (vI lo) (fun α γ X hX=>ZZ h2 (j:=2) rfl X hX) rfl rfl rfl rfl rfl ?_
 refine Rf.nQ (.a [vI 1,vF,.c 2 0,vI lo]) rfl rfl rfl (fun _ _=>rfl) (fun α γ hp X=>Rf.NJ rfl rfl (Rf.bF3 1 lo (γ 2 0) (hp 2 0)) X) ?_
 refine Rf.HY aa 0 2 rfl ?_
 refine Rf.aZ ?_
 refine Rf.bu aa 0 0 rfl ?_
 refine Rf.kV (.f 101 [] [.v (.pointer (some ⟨N3,0,none⟩))]) (fun α γ X hX=>DN h1 (j:=0) rfl X hX) rfl rfl rfl rfl rfl ?_
 refine Rf.ay aa 2 rfl ?_
 refine Rf.kS 3 _ (.a [vI (kd (tF t9 (.fin false 1 lo))),vB (ng (tF t9 (.fin false 1 lo))),.c 3 0,vI (xp (tF t9 (.fin false 1 lo)))]) rfl rfl rfl rfl rfl rfl rfl (Pl.en Tryz.func101) (fun α γ w h=>fC 3 (iN _ _ (.fin false 1 lo) N3 t9 (Fv.mk (x:=(.fin false 1 lo)) (h.r 2 rfl)) (h3.ex h.ex))) ?_
 refine Rf.HY aa 0 2 rfl ?_
 exact Rf.aaa aa rfl (fun α γ w h=>⟨_,rfl,Fv.mk (x:=tF t9 (.fin false 1 lo)) (h.r 3 rfl),h.ex⟩)
theorem Uv (w:World) (vv:Value) (x:Fl) (hv:Fv w vv x) (b p:Nat) (lo hi:Int) (hf:fT b p lo hi) (N1 N2 N3:Nat) (t9:Bool) (h1:Pl.Cb w N1 62 [.func (.func 101) #[] #[.pointer (some ⟨N3,0,none⟩)]]) (h2:Pl.Cb w N2 23 [.int .i64 ((b:Nat):Int),.int .i64 ((p:Nat):Int),.int .i64 lo,.int .i64 hi]) (h3:Pl.Cb w N3 4 [.bool t9]) (hy:tF t9 x = .inf true) (hx:bO b p lo hi (.inf true)) :
  Calls Tryz.prog 102 #[vv,.pointer (some ⟨N1,0,none⟩),.pointer (some ⟨N2,0,none⟩)] w fun e w'=>∃ u,e = .returned u∧Fv w' u (tF t9 (fE b p lo hi (.inf true)))∧Pl.Ex w w':=by
 have f1:=hf.p1
 have f2:=hf.ku
 have f3:=hf.l
 have f4:=hf.l1
 have f5:=hf.h1
 obtain ⟨Av,cv,rfl,uv⟩:=hv
 refine Rf.aA (n:=47) [.a [vI (kd x),vB (ng x),.c 0 0,vI (xp x)],.v (.pointer (some ⟨N1,0,none⟩)),.v (.pointer (some ⟨N2,0,none⟩))] [[.slice Av (limbs (mn x)).length cv]] [(0,(dW (mn x)).S)] Tryz.func102 rfl (by kernel_rfl) rfl rfl ⟨RS.in uv,trivial⟩ ?_
 refine Rf.bu aa 1 0 rfl ?_
 refine Rf.kV (.f 101 [] [.v (.pointer (some ⟨N3,0,none⟩))]) (fun α γ X hX=>DN h1 (j:=0) rfl X hX) rfl rfl rfl rfl rfl ?_
 refine Rf.ay aa 2 rfl ?_
 refine Rf.kS 1 _ (.a [vI 2,vT,.c 1 0,vI 0]) rfl rfl rfl rfl rfl rfl rfl (Pl.en Tryz.func101) (fun α γ w h=>fC 1 (by have h9:=iN _ _ x N3 t9 (Fv.mk (x:=x) (h.r 0 rfl)) (h3.ex h.ex);rw [hy] at h9;exact h9)) ?_
 refine Rf.HY aa 0 2 rfl ?_
 refine Rf.bf ?_
 refine Rf.bu aa 0 2 rfl ?_
 refine Rf.ah (v:=.bool false) (fun X=>aK (by decide) X) rfl ?_
 refine Rf.bY aa 1 2 rfl ?_
 refine Rf.ah (v:=.bool true) (fun X=>aM (by decide) X) rfl ?_
 refine Rf.bY aa 1 2 rfl ?_
 refine Rf.kV (.a [vI ((b:Nat):Int),vI ((p:Nat):Int),vI lo,vI hi]) (fun α γ X hX=>Kc h2 X hX) rfl rfl rfl rfl rfl ?_
 refine Rf.aC 2 _ (.a [vI 1,vT,.c 2 0,vI hi]) rfl (Pl.en Tryz.func74) (fun α γ w h=>fC 2 (zT _ b p lo hi hf true)) ?_
 refine Rf.HY aa 0 2 rfl ?_
 refine Rf.aZ ?_
 refine Rf.bu aa 0 0 rfl ?_
 refine Rf.kV (.f 101 [] [.v (.pointer (some ⟨N3,0,none⟩))]) (fun α γ X hX=>DN h1 (j:=0) rfl X hX) rfl rfl rfl rfl rfl ?_
 refine Rf.ay aa 2 rfl ?_
 refine Rf.kS 3 _ (.a [vI (kd (tF t9 (.fin true (((b^p:Nat):Int)-1) hi))),vB (ng (tF t9 (.fin true (((b^p:Nat):Int)-1) hi))),.c 3 0,vI (xp (tF t9 (.fin true (((b^p:Nat):Int)-1) hi)))]) rfl rfl rfl rfl rfl rfl rfl (Pl.en Tryz.func101) (fun α γ w h=>fC 3 (iN _ _ (.fin true (((b^p:Nat):Int)-1) hi) N3 t9 (Fv.mk (x:=(.fin true (((b^p:Nat):Int)-1) hi)) (h.r 2 rfl)) (h3.ex h.ex))) ?_
 refine Rf.HY aa 0 2 rfl ?_
 exact Rf.aaa aa rfl (fun α γ w h=>⟨_,rfl,Fv.mk (x:=tF t9 (.fin true (((b^p:Nat):Int)-1) hi)) (h.r 3 rfl),h.ex⟩)
theorem Uw (w:World) (vv:Value) (x:Fl) (hv:Fv w vv x) (b p:Nat) (lo hi:Int) (hf:fT b p lo hi) (N1 N2 N3:Nat) (t9:Bool) (h1:Pl.Cb w N1 62 [.func (.func 101) #[] #[.pointer (some ⟨N3,0,none⟩)]]) (h2:Pl.Cb w N2 23 [.int .i64 ((b:Nat):Int),.int .i64 ((p:Nat):Int),.int .i64 lo,.int .i64 hi]) (h3:Pl.Cb w N3 4 [.bool t9]) (hy:tF t9 x = .inf false) (hx:bO b p lo hi (.inf false)) :
  Calls Tryz.prog 102 #[vv,.pointer (some ⟨N1,0,none⟩),.pointer (some ⟨N2,0,none⟩)] w fun e w'=>∃ u,e = .returned u∧Fv w' u (tF t9 (fE b p lo hi (.inf false)))∧Pl.Ex w w':=by
 have f1:=hf.p1
 have f2:=hf.ku
 have f3:=hf.l
 have f4:=hf.l1
 have f5:=hf.h1
 obtain ⟨Av,cv,rfl,uv⟩:=hv
 refine Rf.aA (n:=47) [.a [vI (kd x),vB (ng x),.c 0 0,vI (xp x)],.v (.pointer (some ⟨N1,0,none⟩)),.v (.pointer (some ⟨N2,0,none⟩))] [[.slice Av (limbs (mn x)).length cv]] [(0,(dW (mn x)).S)] Tryz.func102 rfl (by kernel_rfl) rfl rfl ⟨RS.in uv,trivial⟩ ?_
 refine Rf.bu aa 1 0 rfl ?_
 refine Rf.kV (.f 101 [] [.v (.pointer (some ⟨N3,0,none⟩))]) (fun α γ X hX=>DN h1 (j:=0) rfl X hX) rfl rfl rfl rfl rfl ?_
 refine Rf.ay aa 2 rfl ?_
 refine Rf.kS 1 _ (.a [vI 2,vF,.c 1 0,vI 0]) rfl rfl rfl rfl rfl rfl rfl (Pl.en Tryz.func101) (fun α γ w h=>fC 1 (by have h9:=iN _ _ x N3 t9 (Fv.mk (x:=x) (h.r 0 rfl)) (h3.ex h.ex);rw [hy] at h9;exact h9)) ?_
 refine Rf.HY aa 0 2 rfl ?_
 refine Rf.bf ?_
 refine Rf.bu aa 0 2 rfl ?_
 refine Rf.ah (v:=.bool false) (fun X=>aK (by decide) X) rfl ?_
 refine Rf.bY aa 1 2 rfl ?_
 refine Rf.ah (v:=.bool true) (fun X=>aM (by decide) X) rfl ?_
 refine Rf.bY aa 1 2 rfl ?_
 refine Rf.ah (v:=.bool false) (fun X=>aK (by decide) X) rfl ?_
 refine Rf.bY aa 1 2 rfl ?_
 refine Rf.ah (v:=.bool false) (fun X=>aK (by decide) X) rfl ?_
 refine Rf.HY aa 2 2 rfl ?_
 refine Rf.aZ ?_
 refine Rf.bu aa 0 0 rfl ?_
 refine Rf.kV (.f 101 [] [.v (.pointer (some ⟨N3,0,none⟩))]) (fun α γ X hX=>DN h1 (j:=0) rfl X hX) rfl rfl rfl rfl rfl ?_
 refine Rf.ay aa 2 rfl ?_
 refine Rf.kS 2 _ (.a [vI (kd (tF t9 (.inf false))),vB (ng (tF t9 (.inf false))),.c 2 0,vI (xp (tF t9 (.inf false)))]) rfl rfl rfl rfl rfl rfl rfl (Pl.en Tryz.func101) (fun α γ w h=>fC 2 (iN _ _ (.inf false) N3 t9 (Fv.mk (x:=(.inf false)) (h.r 1 rfl)) (h3.ex h.ex))) ?_
 refine Rf.HY aa 0 2 rfl ?_
 exact Rf.aaa aa rfl (fun α γ w h=>⟨_,rfl,Fv.mk (x:=tF t9 (.inf false)) (h.r 2 rfl),h.ex⟩)
theorem Ux (w:World) (vv:Value) (x:Fl) (hv:Fv w vv x) (b p:Nat) (lo hi:Int) (hf:fT b p lo hi) (N1 N2 N3:Nat) (t9:Bool) (h1:Pl.Cb w N1 62 [.func (.func 101) #[] #[.pointer (some ⟨N3,0,none⟩)]]) (h2:Pl.Cb w N2 23 [.int .i64 ((b:Nat):Int),.int .i64 ((p:Nat):Int),.int .i64 lo,.int .i64 hi]) (h3:Pl.Cb w N3 4 [.bool t9]) (m e0:Int) (hy:tF t9 x = .fin true m e0) (hx:bO b p lo hi (.fin true m e0)) :
  Calls Tryz.prog 102 #[vv,.pointer (some ⟨N1,0,none⟩),.pointer (some ⟨N2,0,none⟩)] w fun e w'=>∃ u,e = .returned u∧Fv w' u (tF t9 (fE b p lo hi (.fin true m e0)))∧Pl.Ex w w':=by
 have f1:=hf.p1
 have f2:=hf.ku
 have f3:=hf.l
 have f4:=hf.l1
 have f5:=hf.h1
 obtain ⟨Av,cv,rfl,uv⟩:=hv
 refine Rf.aA (n:=47) [.a [vI (kd x),vB (ng x),.c 0 0,vI (xp x)],.v (.pointer (some ⟨N1,0,none⟩)),.v (.pointer (some ⟨N2,0,none⟩))] [[.slice Av (limbs (mn x)).length cv]] [(0,(dW (mn x)).S)] Tryz.func102 rfl (by kernel_rfl) rfl rfl ⟨RS.in uv,trivial⟩ ?_
 refine Rf.bu aa 1 0 rfl ?_
 refine Rf.kV (.f 101 [] [.v (.pointer (some ⟨N3,0,none⟩))]) (fun α γ X hX=>DN h1 (j:=0) rfl X hX) rfl rfl rfl rfl rfl ?_
 refine Rf.ay aa 2 rfl ?_
 refine Rf.kS 1 _ (.a [vI 1,vT,.c 1 0,vI e0]) rfl rfl rfl rfl rfl rfl rfl (Pl.en Tryz.func101) (fun α γ w h=>fC 1 (by have h9:=iN _ _ x N3 t9 (Fv.mk (x:=x) (h.r 0 rfl)) (h3.ex h.ex);rw [hy] at h9;exact h9)) ?_
 refine Rf.HY aa 0 2 rfl ?_
 refine Rf.bf ?_
 refine Rf.bu aa 0 2 rfl ?_
 refine Rf.ah (v:=.bool false) (fun X=>aK (by decide) X) rfl ?_
 refine Rf.bY aa 1 2 rfl ?_
 refine Rf.ah (v:=.bool false) (fun X=>aK (by decide) X) rfl ?_
 refine Rf.bY aa 1 2 rfl ?_
 refine Rf.ah (v:=.bool true) (fun X=>aM (by decide) X) rfl ?_
 refine Rf.bY aa 1 2 rfl ?_
 refine Rf.kV (.a [vI ((b:Nat):Int),vI ((p:Nat):Int),vI lo,vI hi]) (fun α γ X hX=>Kc h2 X hX) rfl rfl rfl rfl rfl ?_
 refine Rf.ay aa 2 rfl ?_
 refine Rf.aC 2 _ (.a [vI (kd (nU b p lo true m e0)),vB (ng (nU b p lo true m e0)),.c 2 0,vI (xp (nU b p lo true m e0))]) rfl (Pl.en Tryz.func103) (fun α γ w h=>fC 2 (Fe _ _ true m e0 (Fv.mk (x:=(.fin true m e0)) (h.r 1 rfl)) b p lo hi hf hx.1 hx.2)) ?_
 refine Rf.HY aa 0 2 rfl ?_
 refine Rf.aZ ?_
 refine Rf.bu aa 0 0 rfl ?_
 refine Rf.kV (.f 101 [] [.v (.pointer (some ⟨N3,0,none⟩))]) (fun α γ X hX=>DN h1 (j:=0) rfl X hX) rfl rfl rfl rfl rfl ?_
 refine Rf.ay aa 2 rfl ?_
 refine Rf.kS 3 _ (.a [vI (kd (tF t9 (nU b p lo true m e0))),vB (ng (tF t9 (nU b p lo true m e0))),.c 3 0,vI (xp (tF t9 (nU b p lo true m e0)))]) rfl rfl rfl rfl rfl rfl rfl (Pl.en Tryz.func101) (fun α γ w h=>fC 3 (iN _ _ (nU b p lo true m e0) N3 t9 (Fv.mk (x:=(nU b p lo true m e0)) (h.r 2 rfl)) (h3.ex h.ex))) ?_
 refine Rf.HY aa 0 2 rfl ?_
 exact Rf.aaa aa rfl (fun α γ w h=>⟨_,rfl,Fv.mk (x:=tF t9 (nU b p lo true m e0)) (h.r 3 rfl),h.ex⟩)
theorem Uy (w:World) (vv:Value) (x:Fl) (hv:Fv w vv x) (b p:Nat) (lo hi:Int) (hf:fT b p lo hi) (N1 N2 N3:Nat) (t9:Bool) (h1:Pl.Cb w N1 62 [.func (.func 101) #[] #[.pointer (some ⟨N3,0,none⟩)]]) (h2:Pl.Cb w N2 23 [.int .i64 ((b:Nat):Int),.int .i64 ((p:Nat):Int),.int .i64 lo,.int .i64 hi]) (h3:Pl.Cb w N3 4 [.bool t9]) (m e0:Int) (hy:tF t9 x = .fin false m e0) (hx:bO b p lo hi (.fin false m e0)) :
  Calls Tryz.prog 102 #[vv,.pointer (some ⟨N1,0,none⟩),.pointer (some ⟨N2,0,none⟩)] w fun e w'=>∃ u,e = .returned u∧Fv w' u (tF t9 (fE b p lo hi (.fin false m e0)))∧Pl.Ex w w':=by
 have f1:=hf.p1
 have f2:=hf.ku
 have f3:=hf.l
 have f4:=hf.l1
 have f5:=hf.h1
 obtain ⟨Av,cv,rfl,uv⟩:=hv
 refine Rf.aA (n:=47) [.a [vI (kd x),vB (ng x),.c 0 0,vI (xp x)],.v (.pointer (some ⟨N1,0,none⟩)),.v (.pointer (some ⟨N2,0,none⟩))] [[.slice Av (limbs (mn x)).length cv]] [(0,(dW (mn x)).S)] Tryz.func102 rfl (by kernel_rfl) rfl rfl ⟨RS.in uv,trivial⟩ ?_
 refine Rf.bu aa 1 0 rfl ?_
 refine Rf.kV (.f 101 [] [.v (.pointer (some ⟨N3,0,none⟩))]) (fun α γ X hX=>DN h1 (j:=0) rfl X hX) rfl rfl rfl rfl rfl ?_
 refine Rf.ay aa 2 rfl ?_
 refine Rf.kS 1 _ (.a [vI 1,vF,.c 1 0,vI e0]) rfl rfl rfl rfl rfl rfl rfl (Pl.en Tryz.func101) (fun α γ w h=>fC 1 (by have h9:=iN _ _ x N3 t9 (Fv.mk (x:=x) (h.r 0 rfl)) (h3.ex h.ex);rw [hy] at h9;exact h9)) ?_
 refine Rf.HY aa 0 2 rfl ?_
 refine Rf.bf ?_
 refine Rf.bu aa 0 2 rfl ?_
 refine Rf.ah (v:=.bool false) (fun X=>aK (by decide) X) rfl ?_
 refine Rf.bY aa 1 2 rfl ?_
 refine Rf.ah (v:=.bool false) (fun X=>aK (by decide) X) rfl ?_
 refine Rf.bY aa 1 2 rfl ?_
 refine Rf.ah (v:=.bool true) (fun X=>aM (by decide) X) rfl ?_
 refine Rf.bY aa 1 2 rfl ?_
 refine Rf.ah (v:=.bool true) (fun X=>aM (by decide) X) rfl ?_
 refine Rf.bY aa 1 2 rfl ?_
 refine Rf.kV (.a [vI ((b:Nat):Int),vI ((p:Nat):Int),vI lo,vI hi]) (fun α γ X hX=>Kc h2 X hX) rfl rfl rfl rfl rfl ?_
 refine Rf.ay aa 2 rfl ?_
 refine Rf.aC 2 _ (.a [vI (kd (uY b p hi false m e0)),vB (ng (uY b p hi false m e0)),.c 2 0,vI (xp (uY b p hi false m e0))]) rfl (Pl.en Tryz.func104) (fun α γ w h=>fC 2 (DL _ _ false m e0 (Fv.mk (x:=(.fin false m e0)) (h.r 1 rfl)) b p lo hi hf hx.1 hx.2)) ?_
 refine Rf.HY aa 0 2 rfl ?_
 refine Rf.aZ ?_
 refine Rf.bu aa 0 0 rfl ?_
 refine Rf.kV (.f 101 [] [.v (.pointer (some ⟨N3,0,none⟩))]) (fun α γ X hX=>DN h1 (j:=0) rfl X hX) rfl rfl rfl rfl rfl ?_
 refine Rf.ay aa 2 rfl ?_
 refine Rf.kS 3 _ (.a [vI (kd (tF t9 (uY b p hi false m e0))),vB (ng (tF t9 (uY b p hi false m e0))),.c 3 0,vI (xp (tF t9 (uY b p hi false m e0)))]) rfl rfl rfl rfl rfl rfl rfl (Pl.en Tryz.func101) (fun α γ w h=>fC 3 (iN _ _ (uY b p hi false m e0) N3 t9 (Fv.mk (x:=(uY b p hi false m e0)) (h.r 2 rfl)) (h3.ex h.ex))) ?_
 refine Rf.HY aa 0 2 rfl ?_
 exact Rf.aaa aa rfl (fun α γ w h=>⟨_,rfl,Fv.mk (x:=tF t9 (uY b p hi false m e0)) (h.r 3 rfl),h.ex⟩)
end Go.Proofs.YtgcieamfidoaoaaGreatDoor
