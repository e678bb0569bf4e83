/- The float beside another one. -/
import Derived.Test.YtgcieamfidoaoaaGreatDoorBao
import Derived.Test.YtgcieamfidoaoaaGreatDoorBaw
import Derived.Test.YtgcieamfidoaoaaGreatDoorBaq
import Derived.Test.YtgcieamfidoaoaaGreatDoorBak
import Derived.Test.YtgcieamfidoaoaaGreatDoorBam
import Derived.Test.YtgcieamfidoaoaaGreatDoorBag
import Derived.Test.YtgcieamfidoaoaaGreatDoorBal
import Derived.Laws.IdiomArrays
import Derived.WideKeyPair
import Derived.WideKeyArr2
set_option linter.all false
set_option maxHeartbeats 8000000
namespace Go.Proofs.YtgcieamfidoaoaaGreatDoor
open Go.RowKit Rf Fm
set_option maxRecDepth 100000
def tF (t:Bool) (x:Fl):Fl:=if t then x.turn else x
theorem aa7 (t:Bool) (x:Fl):kd (tF t x)=kd x:=by cases t<;>cases x<;>rfl
theorem aa8 (t:Bool) (x:Fl):ng (tF t x)=(ng x != t):=by cases t<;>cases x<;>simp [tF,Fl.turn,ng]
theorem aa9 (t:Bool) (x:Fl):mn (tF t x)=mn x:=by cases t<;>cases x<;>rfl
theorem aa' (t:Bool) (x:Fl):xp (tF t x)=xp x:=by cases t<;>cases x<;>rfl
theorem Ut {w:World} {s:Value} {t:Bool} {x:Fl} (u:Un w s (mn x)):Fv w (.agg #[.int .i64 (kd x),.bool (ng x != t),s,.int .i64 (xp x)]) (tF t x):=by
 have h:=Fv.mk (w:=w) (s:=s) (x:=tF t x) (by rw [aa9];exact u)
 rw [aa7,aa8,aa'] at h
 exact h
theorem aba {b p:Nat} {lo hi:Int} {x:Fl} (t:Bool) (h:bO b p lo hi x):bO b p lo hi (tF t x):=by cases t;exact h;exact h.turn
theorem Uu {P:Program} {T:TypeId} {x y:Operand} (hu:P.underlying T=some .bool) (a b:Bool) (X:World):Pl.Bn P .neq T x y (.bool a) (.bool b) X = .ok (.bool (a != b)) X:=by
 cases a<;>cases b<;>simp [Pl.Bn,eqGuard,binOp,run_equal_bool _ _ _ _ hu]
theorem ldB {w:World} {N:Nat} {T:TypeId} {cs:List Value} {v:Bool} (h:Pl.Cb w N T cs) {j:Nat} (hj:cs[j]?=some (.bool v)) (X:World) (hX:Pl.Ex w X):(Instr.loadAt 4 (.pointer (some ⟨N,j,none⟩))).run Tryz.prog X = .ok (.bool v) X :=
 Pl.sK (dd:=.bool) (by kernel_rfl) rfl ((h.ex hX).at hj)
theorem DN {w:World} {N:Nat} {T:TypeId} {cs:List Value} {v:Value} (h:Pl.Cb w N T cs) {j:Nat} (hj:cs[j]?=some v) (X:World) (hX:Pl.Ex w X):(Instr.loadAt 62 (.pointer (some ⟨N,j,none⟩))).run Tryz.prog X = .ok v X :=
 Pl.sK Tryz.underlying62 rfl ((h.ex hX).at hj)
theorem Kc {w:World} {N:Nat} {T:TypeId} {b p:Nat} {lo hi:Int} (h:Pl.Cb w N T [.int .i64 ((b:Nat):Int),.int .i64 ((p:Nat):Int),.int .i64 lo,.int .i64 hi]) (X:World) (hX:Pl.Ex w X):(Instr.loadAt 23 (.pointer (some ⟨N,0,none⟩))).run Tryz.prog X = .ok (.agg #[.int .i64 ((b:Nat):Int),.int .i64 ((p:Nat):Int),.int .i64 lo,.int .i64 hi]) X :=
 (h.ex hX).load (o:=0) (part:=[.int .i64 ((b:Nat):Int),.int .i64 ((p:Nat):Int),.int .i64 lo,.int .i64 hi]) rfl Tryz.underlying23 rfl (by kernel_rfl)
theorem iN (w:World) (vv:Value) (x:Fl) (N3:Nat) (t9:Bool) (hv:Fv w vv x) (h3:Pl.Cb w N3 4 [.bool t9]) :
  Calls Tryz.prog 101 #[vv,.pointer (some ⟨N3,0,none⟩)] w fun e w'=>∃ u,e = .returned u∧Fv w' u (tF t9 x)∧Pl.Ex w w':=by
 obtain ⟨Av,cv,rfl,uv⟩:=hv
 refine Rf.aA (n:=10) [.a [vI (kd x),vB (ng x),.c 0 0,vI (xp x)],.v (.pointer (some ⟨N3,0,none⟩))] [[.slice Av (limbs (mn x)).length cv]] [(0,(dW (mn x)).S)] Tryz.func101 rfl (by kernel_rfl) rfl rfl ⟨RS.in uv,trivial⟩ ?_
 refine Rf.bu aa 1 0 rfl ?_
 refine Rf.kV (vB t9) (fun α γ X hX=>ldB h3 (j:=0) rfl X hX) rfl rfl rfl rfl rfl ?_
 refine Rf.ah (v:=.bool (ng x != t9)) (fun X=>Uu (by kernel_rfl) _ _ X) rfl ?_
 refine Rf.HY aa 1 2 rfl ?_
 exact Rf.aI aa (fun _ _ h=>h) rfl rfl (fun α γ w h=>⟨_,rfl,Ut (h.r 0 rfl),h.ex⟩)
theorem Yp (w:World) (vv:Value) (x:Fl) (hv:Fv w vv x) (b p:Nat) (lo hi:Int) (hf:fT b p lo hi) (N1 N2 N3:Nat) (t9:Bool) (h1:Pl.Cb w N1 62 [.func (.func 101) #[] #[.pointer (some ⟨N3,0,none⟩)]]) (h2:Pl.Cb w N2 23 [.int .i64 ((b:Nat):Int),.int .i64 ((p:Nat):Int),.int .i64 lo,.int .i64 hi]) (h3:Pl.Cb w N3 4 [.bool t9]) (n9:Bool) (hy:tF t9 x = .zero n9) (hx:bO b p lo hi (.zero n9)) :
  Calls Tryz.prog 102 #[vv,.pointer (some ⟨N1,0,none⟩),.pointer (some ⟨N2,0,none⟩)] w fun e w'=>∃ u,e = .returned u∧Fv w' u (tF t9 (fE b p lo hi (.zero n9)))∧Pl.Ex w w':=by
 have f1:=hf.p1
 have f2:=hf.ku
 have f3:=hf.l
 have f4:=hf.l1
 have f5:=hf.h1
 obtain ⟨Av,cv,rfl,uv⟩:=hv
 refine Rf.aA (n:=47) [.a [vI (kd x),vB (ng x),.c 0 0,vI (xp x)],.v (.pointer (some ⟨N1,0,none⟩)),.v (.pointer (some ⟨N2,0,none⟩))] [[.slice Av (limbs (mn x)).length cv]] [(0,(dW (mn x)).S)] Tryz.func102 rfl (by kernel_rfl) rfl rfl ⟨RS.in uv,trivial⟩ ?_
 refine Rf.bu aa 1 0 rfl ?_
 refine Rf.kV (.f 101 [] [.v (.pointer (some ⟨N3,0,none⟩))]) (fun α γ X hX=>DN h1 (j:=0) rfl X hX) rfl rfl rfl rfl rfl ?_
 refine Rf.ay aa 2 rfl ?_
 refine Rf.kS 1 _ (.a [vI 0,vB n9,.c 1 0,vI 0]) rfl rfl rfl rfl rfl rfl rfl (Pl.en Tryz.func101) (fun α γ w h=>fC 1 (by have h9:=iN _ _ x N3 t9 (Fv.mk (x:=x) (h.r 0 rfl)) (h3.ex h.ex);rw [hy] at h9;exact h9)) ?_
 refine Rf.HY aa 0 2 rfl ?_
 refine Rf.bf ?_
 refine Rf.bu aa 0 2 rfl ?_
 refine Rf.ah (v:=.bool true) (fun X=>aM (by decide) X) rfl ?_
 refine Rf.bY aa 1 2 rfl ?_
 refine Rf.mH (e := 57) (m:=1) [.int .u32 1] 2 (dW 1) rfl rfl rfl (fun _ _=>rfl) (fun α γ X=>by kernel_rfl) rfl (fun N w k=>Un.one (x:=1) k rfl (by omega)) ?_
 refine Rf.aaH aa (q':=2) rfl rfl rfl rfl rfl rfl rfl ?_
 refine Rf.kV (vI lo) (fun α γ X hX=>ZZ h2 (j:=2) rfl X hX) rfl rfl rfl rfl rfl ?_
 refine Rf.nQ (.a [vI 1,vF,.c 2 0,vI lo]) rfl rfl rfl (fun _ _=>rfl) (fun α γ hp X=>Rf.NJ rfl rfl (Rf.bF3 1 lo (γ 2 0) (hp 2 0)) X) ?_
 refine Rf.HY aa 0 2 rfl ?_
 refine Rf.aZ ?_
 refine Rf.bu aa 0 0 rfl ?_
 refine Rf.kV (.f 101 [] [.v (.pointer (some ⟨N3,0,none⟩))]) (fun α γ X hX=>DN h1 (j:=0) rfl X hX) rfl rfl rfl rfl rfl ?_
 refine Rf.ay aa 2 rfl ?_
 refine Rf.kS 3 _ (.a [vI (kd (tF t9 (.fin false 1 lo))),vB (ng (tF t9 (.fin false 1 lo))),.c 3 0,vI (xp (tF t9 (.fin false 1 lo)))]) rfl rfl rfl rfl rfl rfl rfl (Pl.en Tryz.func101) (fun α γ w h=>fC 3 (iN _ _ (.fin false 1 lo) N3 t9 (Fv.mk (x:=(.fin false 1 lo)) (h.r 2 rfl)) (h3.ex h.ex))) ?_
 refine Rf.HY aa 0 2 rfl ?_
 exact Rf.aI aa (fun _ _ h=>h) rfl rfl (fun α γ w h=>⟨_,rfl,Fv.mk (x:=tF t9 (.fin false 1 lo)) (h.r 3 rfl),h.ex⟩)
theorem Uv (w:World) (vv:Value) (x:Fl) (hv:Fv w vv x) (b p:Nat) (lo hi:Int) (hf:fT b p lo hi) (N1 N2 N3:Nat) (t9:Bool) (h1:Pl.Cb w N1 62 [.func (.func 101) #[] #[.pointer (some ⟨N3,0,none⟩)]]) (h2:Pl.Cb w N2 23 [.int .i64 ((b:Nat):Int),.int .i64 ((p:Nat):Int),.int .i64 lo,.int .i64 hi]) (h3:Pl.Cb w N3 4 [.bool t9]) (hy:tF t9 x = .inf true) (hx:bO b p lo hi (.inf true)) :
  Calls Tryz.prog 102 #[vv,.pointer (some ⟨N1,0,none⟩),.pointer (some ⟨N2,0,none⟩)] w fun e w'=>∃ u,e = .returned u∧Fv w' u (tF t9 (fE b p lo hi (.inf true)))∧Pl.Ex w w':=by
 have f1:=hf.p1
 have f2:=hf.ku
 have f3:=hf.l
 have f4:=hf.l1
 have f5:=hf.h1
 obtain ⟨Av,cv,rfl,uv⟩:=hv
 refine Rf.aA (n:=47) [.a [vI (kd x),vB (ng x),.c 0 0,vI (xp x)],.v (.pointer (some ⟨N1,0,none⟩)),.v (.pointer (some ⟨N2,0,none⟩))] [[.slice Av (limbs (mn x)).length cv]] [(0,(dW (mn x)).S)] Tryz.func102 rfl (by kernel_rfl) rfl rfl ⟨RS.in uv,trivial⟩ ?_
 refine Rf.bu aa 1 0 rfl ?_
 refine Rf.kV (.f 101 [] [.v (.pointer (some ⟨N3,0,none⟩))]) (fun α γ X hX=>DN h1 (j:=0) rfl X hX) rfl rfl rfl rfl rfl ?_
 refine Rf.ay aa 2 rfl ?_
 refine Rf.kS 1 _ (.a [vI 2,vT,.c 1 0,vI 0]) rfl rfl rfl rfl rfl rfl rfl (Pl.en Tryz.func101) (fun α γ w h=>fC 1 (by have h9:=iN _ _ x N3 t9 (Fv.mk (x:=x) (h.r 0 rfl)) (h3.ex h.ex);rw [hy] at h9;exact h9)) ?_
 refine Rf.HY aa 0 2 rfl ?_
 refine Rf.bf ?_
 refine Rf.bu aa 0 2 rfl ?_
 refine Rf.ah (v:=.bool false) (fun X=>aK (by decide) X) rfl ?_
 refine Rf.bY aa 1 2 rfl ?_
 refine Rf.ah (v:=.bool true) (fun X=>aM (by decide) X) rfl ?_
 refine Rf.bY aa 1 2 rfl ?_
 refine Rf.kV (.a [vI ((b:Nat):Int),vI ((p:Nat):Int),vI lo,vI hi]) (fun α γ X hX=>Kc h2 X hX) rfl rfl rfl rfl rfl ?_
 refine Rf.aC 2 _ (.a [vI 1,vT,.c 2 0,vI hi]) rfl (Pl.en Tryz.func74) (fun α γ w h=>fC 2 (zT _ b p lo hi hf true)) ?_
 refine Rf.HY aa 0 2 rfl ?_
 refine Rf.aZ ?_
 refine Rf.bu aa 0 0 rfl ?_
 refine Rf.kV (.f 101 [] [.v (.pointer (some ⟨N3,0,none⟩))]) (fun α γ X hX=>DN h1 (j:=0) rfl X hX) rfl rfl rfl rfl rfl ?_
 refine Rf.ay aa 2 rfl ?_
 refine Rf.kS 3 _ (.a [vI (kd (tF t9 (.fin true (((b^p:Nat):Int)-1) hi))),vB (ng (tF t9 (.fin true (((b^p:Nat):Int)-1) hi))),.c 3 0,vI (xp (tF t9 (.fin true (((b^p:Nat):Int)-1) hi)))]) rfl rfl rfl rfl rfl rfl rfl (Pl.en Tryz.func101) (fun α γ w h=>fC 3 (iN _ _ (.fin true (((b^p:Nat):Int)-1) hi) N3 t9 (Fv.mk (x:=(.fin true (((b^p:Nat):Int)-1) hi)) (h.r 2 rfl)) (h3.ex h.ex))) ?_
 refine Rf.HY aa 0 2 rfl ?_
 exact Rf.aI aa (fun _ _ h=>h) rfl rfl (fun α γ w h=>⟨_,rfl,Fv.mk (x:=tF t9 (.fin true (((b^p:Nat):Int)-1) hi)) (h.r 3 rfl),h.ex⟩)
theorem Uw (w:World) (vv:Value) (x:Fl) (hv:Fv w vv x) (b p:Nat) (lo hi:Int) (hf:fT b p lo hi) (N1 N2 N3:Nat) (t9:Bool) (h1:Pl.Cb w N1 62 [.func (.func 101) #[] #[.pointer (some ⟨N3,0,none⟩)]]) (h2:Pl.Cb w N2 23 [.int .i64 ((b:Nat):Int),.int .i64 ((p:Nat):Int),.int .i64 lo,.int .i64 hi]) (h3:Pl.Cb w N3 4 [.bool t9]) (hy:tF t9 x = .inf false) (hx:bO b p lo hi (.inf false)) :
  Calls Tryz.prog 102 #[vv,.pointer (some ⟨N1,0,none⟩),.pointer (some ⟨N2,0,none⟩)] w fun e w'=>∃ u,e = .returned u∧Fv w' u (tF t9 (fE b p lo hi (.inf false)))∧Pl.Ex w w':=by
 have f1:=hf.p1
 have f2:=hf.ku
 have f3:=hf.l
 have f4:=hf.l1
 have f5:=hf.h1
 obtain ⟨Av,cv,rfl,uv⟩:=hv
 refine Rf.aA (n:=47) [.a [vI (kd x),vB (ng x),.c 0 0,vI (xp x)],.v (.pointer (some ⟨N1,0,none⟩)),.v (.pointer (some ⟨N2,0,none⟩))] [[.slice Av (limbs (mn x)).length cv]] [(0,(dW (mn x)).S)] Tryz.func102 rfl (by kernel_rfl) rfl rfl ⟨RS.in uv,trivial⟩ ?_
 refine Rf.bu aa 1 0 rfl ?_
 refine Rf.kV (.f 101 [] [.v (.pointer (some ⟨N3,0,none⟩))]) (fun α γ X hX=>DN h1 (j:=0) rfl X hX) rfl rfl rfl rfl rfl ?_
 refine Rf.ay aa 2 rfl ?_
 refine Rf.kS 1 _ (.a [vI 2,vF,.c 1 0,vI 0]) rfl rfl rfl rfl rfl rfl rfl (Pl.en Tryz.func101) (fun α γ w h=>fC 1 (by have h9:=iN _ _ x N3 t9 (Fv.mk (x:=x) (h.r 0 rfl)) (h3.ex h.ex);rw [hy] at h9;exact h9)) ?_
 refine Rf.HY aa 0 2 rfl ?_
 refine Rf.bf ?_
 refine Rf.bu aa 0 2 rfl ?_
 refine Rf.ah (v:=.bool false) (fun X=>aK (by decide) X) rfl ?_
 refine Rf.bY aa 1 2 rfl ?_
 refine Rf.ah (v:=.bool true) (fun X=>aM (by decide) X) rfl ?_
 refine Rf.bY aa 1 2 rfl ?_
 refine Rf.ah (v:=.bool false) (fun X=>aK (by decide) X) rfl ?_
 refine Rf.bY aa 1 2 rfl ?_
 refine Rf.ah (v:=.bool false) (fun X=>aK (by decide) X) rfl ?_
 refine Rf.HY aa 2 2 rfl ?_
 refine Rf.aZ ?_
 refine Rf.bu aa 0 0 rfl ?_
 refine Rf.kV (.f 101 [] [.v (.pointer (some ⟨N3,0,none⟩))]) (fun α γ X hX=>DN h1 (j:=0) rfl X hX) rfl rfl rfl rfl rfl ?_
 refine Rf.ay aa 2 rfl ?_
 refine Rf.kS 2 _ (.a [vI (kd (tF t9 (.inf false))),vB (ng (tF t9 (.inf false))),.c 2 0,vI (xp (tF t9 (.inf false)))]) rfl rfl rfl rfl rfl rfl rfl (Pl.en Tryz.func101) (fun α γ w h=>fC 2 (iN _ _ (.inf false) N3 t9 (Fv.mk (x:=(.inf false)) (h.r 1 rfl)) (h3.ex h.ex))) ?_
 refine Rf.HY aa 0 2 rfl ?_
 exact Rf.aI aa (fun _ _ h=>h) rfl rfl (fun α γ w h=>⟨_,rfl,Fv.mk (x:=tF t9 (.inf false)) (h.r 2 rfl),h.ex⟩)
theorem Ux (w:World) (vv:Value) (x:Fl) (hv:Fv w vv x) (b p:Nat) (lo hi:Int) (hf:fT b p lo hi) (N1 N2 N3:Nat) (t9:Bool) (h1:Pl.Cb w N1 62 [.func (.func 101) #[] #[.pointer (some ⟨N3,0,none⟩)]]) (h2:Pl.Cb w N2 23 [.int .i64 ((b:Nat):Int),.int .i64 ((p:Nat):Int),.int .i64 lo,.int .i64 hi]) (h3:Pl.Cb w N3 4 [.bool t9]) (m e0:Int) (hy:tF t9 x = .fin true m e0) (hx:bO b p lo hi (.fin true m e0)) :
  Calls Tryz.prog 102 #[vv,.pointer (some ⟨N1,0,none⟩),.pointer (some ⟨N2,0,none⟩)] w fun e w'=>∃ u,e = .returned u∧Fv w' u (tF t9 (fE b p lo hi (.fin true m e0)))∧Pl.Ex w w':=by
 have f1:=hf.p1
 have f2:=hf.ku
 have f3:=hf.l
 have f4:=hf.l1
 have f5:=hf.h1
 obtain ⟨Av,cv,rfl,uv⟩:=hv
 refine Rf.aA (n:=47) [.a [vI (kd x),vB (ng x),.c 0 0,vI (xp x)],.v (.pointer (some ⟨N1,0,none⟩)),.v (.pointer (some ⟨N2,0,none⟩))] [[.slice Av (limbs (mn x)).length cv]] [(0,(dW (mn x)).S)] Tryz.func102 rfl (by kernel_rfl) rfl rfl ⟨RS.in uv,trivial⟩ ?_
 refine Rf.bu aa 1 0 rfl ?_
 refine Rf.kV (.f 101 [] [.v (.pointer (some ⟨N3,0,none⟩))]) (fun α γ X hX=>DN h1 (j:=0) rfl X hX) rfl rfl rfl rfl rfl ?_
 refine Rf.ay aa 2 rfl ?_
 refine Rf.kS 1 _ (.a [vI 1,vT,.c 1 0,vI e0]) rfl rfl rfl rfl rfl rfl rfl (Pl.en Tryz.func101) (fun α γ w h=>fC 1 (by have h9:=iN _ _ x N3 t9 (Fv.mk (x:=x) (h.r 0 rfl)) (h3.ex h.ex);rw [hy] at h9;exact h9)) ?_
 refine Rf.HY aa 0 2 rfl ?_
 refine Rf.bf ?_
 refine Rf.bu aa 0 2 rfl ?_
 refine Rf.ah (v:=.bool false) (fun X=>aK (by decide) X) rfl ?_
 refine Rf.bY aa 1 2 rfl ?_
 refine Rf.ah (v:=.bool false) (fun X=>aK (by decide) X) rfl ?_
 refine Rf.bY aa 1 2 rfl ?_
 refine Rf.ah (v:=.bool true) (fun X=>aM (by decide) X) rfl ?_
 refine Rf.bY aa 1 2 rfl ?_
 refine Rf.kV (.a [vI ((b:Nat):Int),vI ((p:Nat):Int),vI lo,vI hi]) (fun α γ X hX=>Kc h2 X hX) rfl rfl rfl rfl rfl ?_
 refine Rf.ay aa 2 rfl ?_
 refine Rf.aC 2 _ (.a [vI (kd (nU b p lo true m e0)),vB (ng (nU b p lo true m e0)),.c 2 0,vI (xp (nU b p lo true m e0))]) rfl (Pl.en Tryz.func103) (fun α γ w h=>fC 2 (Fe _ _ true m e0 (Fv.mk (x:=(.fin true m e0)) (h.r 1 rfl)) b p lo hi hf hx.1 hx.2)) ?_
 refine Rf.HY aa 0 2 rfl ?_
 refine Rf.aZ ?_
 refine Rf.bu aa 0 0 rfl ?_
 refine Rf.kV (.f 101 [] [.v (.pointer (some ⟨N3,0,none⟩))]) (fun α γ X hX=>DN h1 (j:=0) rfl X hX) rfl rfl rfl rfl rfl ?_
 refine Rf.ay aa 2 rfl ?_
 refine Rf.kS 3 _ (.a [vI (kd (tF t9 (nU b p lo true m e0))),vB (ng (tF t9 (nU b p lo true m e0))),.c 3 0,vI (xp (tF t9 (nU b p lo true m e0)))]) rfl rfl rfl rfl rfl rfl rfl (Pl.en Tryz.func101) (fun α γ w h=>fC 3 (iN _ _ (nU b p lo true m e0) N3 t9 (Fv.mk (x:=(nU b p lo true m e0)) (h.r 2 rfl)) (h3.ex h.ex))) ?_
 refine Rf.HY aa 0 2 rfl ?_
 exact Rf.aI aa (fun _ _ h=>h) rfl rfl (fun α γ w h=>⟨_,rfl,Fv.mk (x:=tF t9 (nU b p lo true m e0)) (h.r 3 rfl),h.ex⟩)
theorem Uy (w:World) (vv:Value) (x:Fl) (hv:Fv w vv x) (b p:Nat) (lo hi:Int) (hf:fT b p lo hi) (N1 N2 N3:Nat) (t9:Bool) (h1:Pl.Cb w N1 62 [.func (.func 101) #[] #[.pointer (some ⟨N3,0,none⟩)]]) (h2:Pl.Cb w N2 23 [.int .i64 ((b:Nat):Int),.int .i64 ((p:Nat):Int),.int .i64 lo,.int .i64 hi]) (h3:Pl.Cb w N3 4 [.bool t9]) (m e0:Int) (hy:tF t9 x = .fin false m e0) (hx:bO b p lo hi (.fin false m e0)) :
  Calls Tryz.prog 102 #[vv,.pointer (some ⟨N1,0,none⟩),.pointer (some ⟨N2,0,none⟩)] w fun e w'=>∃ u,e = .returned u∧Fv w' u (tF t9 (fE b p lo hi (.fin false m e0)))∧Pl.Ex w w':=by
 have f1:=hf.p1
 have f2:=hf.ku
 have f3:=hf.l
 have f4:=hf.l1
 have f5:=hf.h1
 obtain ⟨Av,cv,rfl,uv⟩:=hv
 refine Rf.aA (n:=47) [.a [vI (kd x),vB (ng x),.c 0 0,vI (xp x)],.v (.pointer (some ⟨N1,0,none⟩)),.v (.pointer (some ⟨N2,0,none⟩))] [[.slice Av (limbs (mn x)).length cv]] [(0,(dW (mn x)).S)] Tryz.func102 rfl (by kernel_rfl) rfl rfl ⟨RS.in uv,trivial⟩ ?_
 refine Rf.bu aa 1 0 rfl ?_
 refine Rf.kV (.f 101 [] [.v (.pointer (some ⟨N3,0,none⟩))]) (fun α γ X hX=>DN h1 (j:=0) rfl X hX) rfl rfl rfl rfl rfl ?_
 refine Rf.ay aa 2 rfl ?_
 refine Rf.kS 1 _ (.a [vI 1,vF,.c 1 0,vI e0]) rfl rfl rfl rfl rfl rfl rfl (Pl.en Tryz.func101) (fun α γ w h=>fC 1 (by have h9:=iN _ _ x N3 t9 (Fv.mk (x:=x) (h.r 0 rfl)) (h3.ex h.ex);rw [hy] at h9;exact h9)) ?_
 refine Rf.HY aa 0 2 rfl ?_
 refine Rf.bf ?_
 refine Rf.bu aa 0 2 rfl ?_
 refine Rf.ah (v:=.bool false) (fun X=>aK (by decide) X) rfl ?_
 refine Rf.bY aa 1 2 rfl ?_
 refine Rf.ah (v:=.bool false) (fun X=>aK (by decide) X) rfl ?_
 refine Rf.bY aa 1 2 rfl ?_
 refine Rf.ah (v:=.bool true) (fun X=>aM (by decide) X) rfl ?_
 refine Rf.bY aa 1 2 rfl ?_
 refine Rf.ah (v:=.bool true) (fun X=>aM (by decide) X) rfl ?_
 refine Rf.bY aa 1 2 rfl ?_
 refine Rf.kV (.a [vI ((b:Nat):Int),vI ((p:Nat):Int),vI lo,vI hi]) (fun α γ X hX=>Kc h2 X hX) rfl rfl rfl rfl rfl ?_
 refine Rf.ay aa 2 rfl ?_
 refine Rf.aC 2 _ (.a [vI (kd (uY b p hi false m e0)),vB (ng (uY b p hi false m e0)),.c 2 0,vI (xp (uY b p hi false m e0))]) rfl (Pl.en Tryz.func104) (fun α γ w h=>fC 2 (DL _ _ false m e0 (Fv.mk (x:=(.fin false m e0)) (h.r 1 rfl)) b p lo hi hf hx.1 hx.2)) ?_
 refine Rf.HY aa 0 2 rfl ?_
 refine Rf.aZ ?_
 refine Rf.bu aa 0 0 rfl ?_
 refine Rf.kV (.f 101 [] [.v (.pointer (some ⟨N3,0,none⟩))]) (fun α γ X hX=>DN h1 (j:=0) rfl X hX) rfl rfl rfl rfl rfl ?_
 refine Rf.ay aa 2 rfl ?_
 refine Rf.kS 3 _ (.a [vI (kd (tF t9 (uY b p hi false m e0))),vB (ng (tF t9 (uY b p hi false m e0))),.c 3 0,vI (xp (tF t9 (uY b p hi false m e0)))]) rfl rfl rfl rfl rfl rfl rfl (Pl.en Tryz.func101) (fun α γ w h=>fC 3 (iN _ _ (uY b p hi false m e0) N3 t9 (Fv.mk (x:=(uY b p hi false m e0)) (h.r 2 rfl)) (h3.ex h.ex))) ?_
 refine Rf.HY aa 0 2 rfl ?_
 exact Rf.aI aa (fun _ _ h=>h) rfl rfl (fun α γ w h=>⟨_,rfl,Fv.mk (x:=tF t9 (uY b p hi false m e0)) (h.r 3 rfl),h.ex⟩)
end Go.Proofs.YtgcieamfidoaoaaGreatDoor
/- Next and Prev. -/
namespace Go.Proofs.YtgcieamfidoaoaaGreatDoor
open Go.RowKit Rf Fm
set_option maxRecDepth 100000
theorem Ca (w:World) (vv:Value) (x:Fl) (hv:Fv w vv x) (b p:Nat) (lo hi:Int) (hf:fT b p lo hi) (N1 N2 N3:Nat) (t9:Bool) (h1:Pl.Cb w N1 62 [.func (.func 101) #[] #[.pointer (some ⟨N3,0,none⟩)]]) (h2:Pl.Cb w N2 23 [.int .i64 ((b:Nat):Int),.int .i64 ((p:Nat):Int),.int .i64 lo,.int .i64 hi]) (h3:Pl.Cb w N3 4 [.bool t9]) (hx:bO b p lo hi x) :
  Calls Tryz.prog 102 #[vv,.pointer (some ⟨N1,0,none⟩),.pointer (some ⟨N2,0,none⟩)] w fun e w'=>∃ u,e = .returned u∧Fv w' u (tF t9 (fE b p lo hi (tF t9 x)))∧Pl.Ex w w':=by
 have hk:=aba t9 hx
 cases hy:tF t9 x with
 | zero n=>rw [hy] at hk;exact Yp w vv x hv b p lo hi hf N1 N2 N3 t9 h1 h2 h3 n hy hk
 | fin n m e0 =>
  rw [hy] at hk
  cases n
  · exact Uy w vv x hv b p lo hi hf N1 N2 N3 t9 h1 h2 h3 m e0 hy hk
  · exact Ux w vv x hv b p lo hi hf N1 N2 N3 t9 h1 h2 h3 m e0 hy hk
 | inf n =>
  rw [hy] at hk
  cases n
  · exact Uw w vv x hv b p lo hi hf N1 N2 N3 t9 h1 h2 h3 hy hk
  · exact Uv w vv x hv b p lo hi hf N1 N2 N3 t9 h1 h2 h3 hy hk
def Yq (b p:Nat) (lo hi:Int) (t9:Bool):Rf.Spec where
 P X w f:=∃ N1 N2 N3,f 0 = .pointer (some ⟨N1,0,none⟩)∧f 1 = .pointer (some ⟨N2,0,none⟩)∧¬ X N1∧¬ X N2∧¬ X N3∧Pl.Cb w N1 62 [.func (.func 101) #[] #[.pointer (some ⟨N3,0,none⟩)]]∧Pl.Cb w N2 23 [.int .i64 ((b:Nat):Int),.int .i64 ((p:Nat):Int),.int .i64 lo,.int .i64 hi]∧Pl.Cb w N3 4 [.bool t9]
 keep:=fun ⟨N1,N2,N3,a,b,c1,c2,c3,d1,d2,d3⟩ _ hk _ _=>⟨N1,N2,N3,a,b,c1,c2,c3,(hk N1 (Pl.Cb.lt d1) c1).trans d1,(hk N2 (Pl.Cb.lt d2) c2).trans d2,(hk N3 (Pl.Cb.lt d3) c3).trans d3⟩
 grow:=fun ⟨N1,N2,N3,a,b,c1,c2,c3,d1,d2,d3⟩ hY _=>⟨N1,N2,N3,a,b,fun h=>(hY N1 h).elim c1 (fun h9=>by have:=Pl.Cb.lt d1;omega),fun h=>(hY N2 h).elim c2 (fun h9=>by have:=Pl.Cb.lt d2;omega),fun h=>(hY N3 h).elim c3 (fun h9=>by have:=Pl.Cb.lt d3;omega),d1,d2,d3⟩
theorem xG (w:World) (b p:Nat) (lo hi:Int) (t9:Bool) :
  Calls Tryz.prog 58 #[.agg #[.int .i64 ((b:Nat):Int),.int .i64 ((p:Nat):Int),.int .i64 lo,.int .i64 hi],.bool t9] w fun e w'=>∃ N1 N2 N3,e = .returned (.func (.func 102) #[] #[.pointer (some ⟨N1,0,none⟩),.pointer (some ⟨N2,0,none⟩)])∧Pl.Cb w' N1 62 [.func (.func 101) #[] #[.pointer (some ⟨N3,0,none⟩)]]∧Pl.Cb w' N2 23 [.int .i64 ((b:Nat):Int),.int .i64 ((p:Nat):Int),.int .i64 lo,.int .i64 hi]∧Pl.Cb w' N3 4 [.bool t9]∧w.heap.size≤N1∧w.heap.size≤N2∧w.heap.size≤N3∧Pl.Ex w w':=by
 refine Rf.aA (n:=8) [.a [vI ((b:Nat):Int),vI ((p:Nat):Int),vI lo,vI hi],vB t9] [] [] Tryz.func58 rfl (by kernel_rfl) rfl rfl trivial ?_
 refine Rf.bu aa 1 0 rfl ?_
 refine Rf.Ww rfl rfl rfl rfl rfl ?_
 refine Rf.bY aa 0 2 rfl ?_
 refine Rf.Ww rfl rfl rfl rfl rfl ?_
 refine Rf.HY aa 0 3 rfl ?_
 exact Rf.aI aa (fun _ _ h=>h) rfl rfl (fun α γ w h=>⟨α 2,α 0,α 1,rfl,(h.box 2 _ _ rfl).1,(h.box 0 _ _ rfl).1,(h.box 1 _ _ rfl).1,(h.box 2 _ _ rfl).2.1,(h.box 0 _ _ rfl).2.1,(h.box 1 _ _ rfl).2.1,h.ex⟩)
theorem abb {f:FuncId} {args:Array Value} {w:World} {α:Rf.Env} {γ:Rf.kR} {b p:Nat} {lo hi:Int} {t9:Bool} (g:Nat) (h:Calls Tryz.prog f args w fun e w'=>∃ N1 N2 N3,e = .returned (.func (.func 102) #[] #[.pointer (some ⟨N1,0,none⟩),.pointer (some ⟨N2,0,none⟩)])∧Pl.Cb w' N1 62 [.func (.func 101) #[] #[.pointer (some ⟨N3,0,none⟩)]]∧Pl.Cb w' N2 23 [.int .i64 ((b:Nat):Int),.int .i64 ((p:Nat):Int),.int .i64 lo,.int .i64 hi]∧Pl.Cb w' N3 4 [.bool t9]∧w.heap.size≤N1∧w.heap.size≤N2∧w.heap.size≤N3∧Pl.Ex w w') :
  Calls Tryz.prog f args w (fun e w'=>∃ F,(∀ k,Rf.bG (F k)=true)∧e = .returned (Rf.den α (Rf.upd γ g F) (.f 102 [] [.c g 0,.c g 1]))∧(∀ X:Nat→Prop,(∀ k,X k→k<w.heap.size∧Rf.Ei w k)→(Yq b p lo hi t9).P X w' F)∧Pl.Ex w w'):=Calls.mono h fun e w' ⟨N1,N2,N3,he,d1,d2,d3,s1,s2,s3,hE⟩=>by
 subst he
 refine ⟨Rf.wo [.pointer (some ⟨N1,0,none⟩),.pointer (some ⟨N2,0,none⟩)],Rf.eG rfl,?_,fun X hX=>⟨N1,N2,N3,rfl,rfl,fun h=>by have:=(hX _ h).1;omega,fun h=>by have:=(hX _ h).1;omega,fun h=>by have:=(hX _ h).1;omega,d1,d2,d3⟩,hE⟩
 simp only [Rf.den,Rf.bZ,Rf.upd_same];rfl
theorem jf (w:World) (va:Value) (x:Fl) (ha:Fv w va x) (b p:Nat) (lo hi:Int) (hf:fT b p lo hi) (hx:bO b p lo hi x) :
  Calls Tryz.prog 22 #[.agg #[.int .i64 ((b:Nat):Int),.int .i64 ((p:Nat):Int),.int .i64 lo,.int .i64 hi],va] w fun e w'=>∃ u,e = .returned u∧Fv w' u (fE b p lo hi x)∧Pl.Ex w w':=by
 obtain ⟨Aa,ca,rfl,ua⟩:=ha
 refine Rf.aA (n:=9) [.a [vI ((b:Nat):Int),vI ((p:Nat):Int),vI lo,vI hi],.a [vI (kd x),vB (ng x),.c 0 0,vI (xp x)]] [[.slice Aa (limbs (mn x)).length ca]] [(0,(dW (mn x)).S)] Tryz.func22 rfl (by kernel_rfl) rfl rfl ⟨RS.in ua,trivial⟩ ?_
 refine Rf.HX aa 1 0 rfl ?_
 refine Rf.aQ none fo ?_
 refine Rf.aD aa 5 3 rfl ?_
 refine Rf.xy [] 1 (Yq b p lo hi false) (.f 102 [] [.c 1 0,.c 1 1]) (.inr ⟨rfl,rfl,rfl⟩) rfl rfl rfl rfl rfl rfl rfl rfl (Pl.en Tryz.func58) (fun α γ w h=>Rf.uJ (abb 1 (xG _ b p lo hi false))) ?_
 refine Rf.aD aa 5 3 rfl ?_
 refine Rf.xy [1,0] 2 (Rf.dW (mn (fE b p lo hi x))).S (.a [vI (kd (fE b p lo hi x)),vB (ng (fE b p lo hi x)),.c 2 0,vI (xp (fE b p lo hi x))]) (.inl rfl) rfl rfl rfl rfl rfl rfl rfl rfl (Pl.en Tryz.func102) (fun α γ w h=>Rf.toS (by obtain ⟨N1,N2,N3,e1,e2,-,-,-,k1,k2,k3⟩:=h.fact 1 _ rfl;show Calls _ _ #[.agg #[.int .i64 (kd x),.bool (ng x),γ 0 0,.int .i64 (xp x)],γ 1 0,γ 1 1] _ _;rw [e1,e2];exact Rf.fC 2 (Ca w _ x (Fv.mk (h.r 0 rfl)) b p lo hi hf N1 N2 N3 false k1 k2 k3 hx))) ?_
 refine Rf.aD aa 5 3 rfl ?_
 refine Rf.aW (by kernel_rfl) ?_
 refine Rf.aP [4] [2] [2] rfl ?_
 repeat refine Rf.aO ?_
 exact Rf.aI aa (fun _ _ h=>h) rfl rfl (fun α γ w h=>⟨_,rfl,Fv.mk (x:=fE b p lo hi x) (h.r 2 rfl),h.ex⟩)
theorem jF (w:World) (va:Value) (x:Fl) (ha:Fv w va x) (b p:Nat) (lo hi:Int) (hf:fT b p lo hi) (hx:bO b p lo hi x) :
  Calls Tryz.prog 24 #[.agg #[.int .i64 ((b:Nat):Int),.int .i64 ((p:Nat):Int),.int .i64 lo,.int .i64 hi],va] w fun e w'=>∃ u,e = .returned u∧Fv w' u (fV b p lo hi x)∧Pl.Ex w w':=by
 obtain ⟨Aa,ca,rfl,ua⟩:=ha
 refine Rf.aA (n:=9) [.a [vI ((b:Nat):Int),vI ((p:Nat):Int),vI lo,vI hi],.a [vI (kd x),vB (ng x),.c 0 0,vI (xp x)]] [[.slice Aa (limbs (mn x)).length ca]] [(0,(dW (mn x)).S)] Tryz.func24 rfl (by kernel_rfl) rfl rfl ⟨RS.in ua,trivial⟩ ?_
 refine Rf.HX aa 1 0 rfl ?_
 refine Rf.aQ none fo ?_
 refine Rf.aD aa 5 3 rfl ?_
 refine Rf.xy [] 1 (Yq b p lo hi true) (.f 102 [] [.c 1 0,.c 1 1]) (.inr ⟨rfl,rfl,rfl⟩) rfl rfl rfl rfl rfl rfl rfl rfl (Pl.en Tryz.func58) (fun α γ w h=>Rf.uJ (abb 1 (xG _ b p lo hi true))) ?_
 refine Rf.aD aa 5 3 rfl ?_
 refine Rf.xy [1,0] 2 (Rf.dW (mn (fV b p lo hi x))).S (.a [vI (kd (fV b p lo hi x)),vB (ng (fV b p lo hi x)),.c 2 0,vI (xp (fV b p lo hi x))]) (.inl rfl) rfl rfl rfl rfl rfl rfl rfl rfl (Pl.en Tryz.func102) (fun α γ w h=>Rf.toS (by obtain ⟨N1,N2,N3,e1,e2,-,-,-,k1,k2,k3⟩:=h.fact 1 _ rfl;show Calls _ _ #[.agg #[.int .i64 (kd x),.bool (ng x),γ 0 0,.int .i64 (xp x)],γ 1 0,γ 1 1] _ _;rw [e1,e2];exact Rf.fC 2 (Ca w _ x (Fv.mk (h.r 0 rfl)) b p lo hi hf N1 N2 N3 true k1 k2 k3 hx))) ?_
 refine Rf.aD aa 5 3 rfl ?_
 refine Rf.aW (by kernel_rfl) ?_
 refine Rf.aP [4] [2] [2] rfl ?_
 repeat refine Rf.aO ?_
 exact Rf.aI aa (fun _ _ h=>h) rfl rfl (fun α γ w h=>⟨_,rfl,Fv.mk (x:=fV b p lo hi x) (h.r 2 rfl),h.ex⟩)
end Go.Proofs.YtgcieamfidoaoaaGreatDoor
/- What a float is worth. -/
namespace Go.Proofs.YtgcieamfidoaoaaGreatDoor
open Go.RowKit Rf Fm
set_option maxRecDepth 100000
theorem abd {w:World} {s:Value} {n:Nat} (u:Un w s n):Zn w (.agg #[.bool false,s]) ((n:Nat):Int):=by
 obtain ⟨A,c,rfl⟩:=Un.jX u
 exact Qw u
theorem Qx {b k:Nat} {n:Bool} {m:Int} (hm:0≤m):vf b (.fin n m (k:Int))=((sg n m.natAbs*((b^k:Nat):Int):Int):Rat):=by
 have h:((m.natAbs:Nat):Int)=m:=by omega
 show sv n ((m:Rat)*bp b (k:Int))=_
 rw [ry]
 cases n with
 | false=>show (m:Rat)*_=_;rw [← Rat.intCast_mul];show _=((((m.natAbs:Nat):Int)*_:Int):Rat);rw [h]
 | true=>show -((m:Rat)*_)=_;rw [← Rat.intCast_mul,← Rat.intCast_neg];show _=((-((m.natAbs:Nat):Int)*_:Int):Rat);rw [h,Int.neg_mul]
theorem Bi {b k:Nat} {n:Bool} {m:Int} (hb:2≤b) (hm:0≤m):vf b (.fin n m (-(k:Int)))=Rat.divInt (sg n m.natAbs) ((b^k:Nat):Int):=by
 have h:((m.natAbs:Nat):Int)=m:=by omega
 have h3:bp b (-(k:Int))=(((b^k:Nat):Int):Rat)⁻¹:=by
  have hne:=Md hb (k:Int)
  have h1:=y5 hb (k:Int)
  have h2:bp b (-(k:Int))=bp b (k:Int)*bp b (-(k:Int))*(bp b (k:Int))⁻¹:=by
   rw [Rat.mul_comm (bp b (k:Int)),Rat.mul_assoc,Rat.mul_inv_cancel _ hne,Rat.mul_one]
  rw [h1,Rat.one_mul,ry] at h2
  exact h2
 rw [Rat.divInt_eq_div,Rat.div_def]
 show sv n ((m:Rat)*bp b (-(k:Int)))=_
 rw [h3]
 cases n with
 | false=>show (m:Rat)*_=((((m.natAbs:Nat):Int)):Rat)*_;rw [h]
 | true=>show -((m:Rat)*_)=((-((m.natAbs:Nat):Int):Int):Rat)*_;rw [h,Rat.intCast_neg,Rat.neg_mul]
theorem Ik (w:World) (vn vd:Value) (n:Int) (D L:Nat) (hn:Zn w vn n) (hd:Zn w vd ((D:Nat):Int)) (ln:Sz n L) (hL:L≤70) (ld:Sn D 70) (hD0:D≠0) :
  Calls Tryz.prog 52 #[vn,vd] w fun e w'=>∃ u,e = .returned (.tuple #[u,.int .i64 0])∧Qn w' u (Rat.divInt n ((D:Nat):Int)) L 70∧Pl.Ex w w':=by
 obtain ⟨An,cn,rfl,un⟩:=hn
 obtain ⟨Ad,cd,rfl,ud⟩:=hd
 rw [show decide (((D:Nat):Int)<0)=false from decide_eq_false (by omega)]
 refine Rf.aA (n:=18) [.a [.c 0 0,.c 0 1],.a [vF,.c 1 0]] [[.bool (decide (n<0)),.slice An (limbs (Int.natAbs n)).length cn],[.slice Ad (limbs D).length cd]] [(0,(Wu n).S),(1,(dW D).S)] Tryz.func52 rfl (by kernel_rfl) rfl rfl ⟨RS.in ⟨An,cn,rfl,un⟩,RS.in ud,trivial⟩ ?_
 refine Rf.bu aa 1 0 rfl ?_
 refine Rf.aC 2 _ _ rfl (Pl.en Tryz.func95) (fun α γ w h=>aU 2 (L9 _ _ ((D:Nat):Int) (abd (h.r 1 rfl)) _ rfl)) ?_
 refine Rf.ah (v:=.bool false) (fun X=>aK (fun h9=>hD0 (by have:=Int.sign_eq_zero_iff_zero.1 h9;omega)) X) rfl ?_
 refine Rf.bY aa 5 3 rfl ?_
 refine Rf.aC 3 _ _ rfl (Pl.en Tryz.func97) (fun α γ w h=>iP 3 (E9 _ _ _ n D L (h.r 0 rfl) (h.r 1 rfl) ln (by omega) ld hD0)) ?_
 refine Rf.HY aa 0 3 rfl ?_
 exact Rf.aI aa (fun _ _ h=>h) rfl rfl (fun α γ w h=>⟨_,rfl,(h.r 3 rfl),h.ex⟩)
theorem Yr (w:World) (va:Value) (n9:Bool) (ha:Fv w va (.zero n9)) (b p:Nat) (lo hi:Int) (hf:fT b p lo hi) :
  Calls Tryz.prog 15 #[.agg #[.int .i64 ((b:Nat):Int),.int .i64 ((p:Nat):Int),.int .i64 lo,.int .i64 hi],va] w fun e w'=>e = .returned (.bool true)∧Pl.Ex w w':=by
 obtain ⟨Aa,ca,rfl,ua⟩:=ha
 refine Rf.aA (n:=74) [.a [vI ((b:Nat):Int),vI ((p:Nat):Int),vI lo,vI hi],.a [vI 0,vB n9,.c 0 0,vI 0]] [[.slice Aa (limbs 0).length ca]] [(0,(dW 0).S)] Tryz.func15 rfl (by kernel_rfl) rfl rfl ⟨RS.in ua,trivial⟩ ?_
 refine Rf.bu aa 1 0 rfl ?_
 refine Rf.aC 1 _ _ rfl (Pl.en Tryz.func13) (fun α γ w h=>aU 1 (ig _ b p lo hi hf)) ?_
 refine Rf.aV (.bool false) rfl (fun X=>aT _ X) ?_
 refine Rf.HY aa 3 2 rfl ?_
 refine Rf.bf ?_
 refine Rf.bu aa 0 0 rfl ?_
 refine Rf.ah (v:=.bool true) (fun X=>aM (by decide) X) rfl ?_
 refine Rf.bY aa 3 2 rfl ?_
 refine Rf.dD ((limbs 0).length) Tryz.underlying24 rfl rfl rfl rfl rfl rfl (fun w f h=>Un.jX h) ?_
 refine Rf.ah (v:=.bool true) (fun X=>aM (by rw [aX];rfl) X) rfl ?_
 refine Rf.ay aa 2 rfl ?_
 refine Rf.ah (v:=.bool true) (fun X=>aM (by decide) X) rfl ?_
 refine Rf.HY aa 0 2 rfl ?_
 exact Rf.aI aa (fun _ _ h=>Pl.dG (Pl.eD h)) rfl rfl (fun α γ w h=>⟨rfl,h.ex⟩)
theorem Yt (w:World) (va:Value) (n9:Bool) (ha:Fv w va (.inf n9)) (b p:Nat) (lo hi:Int) (hf:fT b p lo hi) :
  Calls Tryz.prog 15 #[.agg #[.int .i64 ((b:Nat):Int),.int .i64 ((p:Nat):Int),.int .i64 lo,.int .i64 hi],va] w fun e w'=>e = .returned (.bool true)∧Pl.Ex w w':=by
 obtain ⟨Aa,ca,rfl,ua⟩:=ha
 refine Rf.aA (n:=74) [.a [vI ((b:Nat):Int),vI ((p:Nat):Int),vI lo,vI hi],.a [vI 2,vB n9,.c 0 0,vI 0]] [[.slice Aa (limbs 0).length ca]] [(0,(dW 0).S)] Tryz.func15 rfl (by kernel_rfl) rfl rfl ⟨RS.in ua,trivial⟩ ?_
 refine Rf.bu aa 1 0 rfl ?_
 refine Rf.aC 1 _ _ rfl (Pl.en Tryz.func13) (fun α γ w h=>aU 1 (ig _ b p lo hi hf)) ?_
 refine Rf.aV (.bool false) rfl (fun X=>aT _ X) ?_
 refine Rf.HY aa 3 2 rfl ?_
 refine Rf.bf ?_
 refine Rf.bu aa 0 0 rfl ?_
 refine Rf.ah (v:=.bool false) (fun X=>aK (by decide) X) rfl ?_
 refine Rf.bY aa 1 2 rfl ?_
 refine Rf.ah (v:=.bool true) (fun X=>aM (by decide) X) rfl ?_
 refine Rf.bY aa 1 2 rfl ?_
 refine Rf.dD ((limbs 0).length) Tryz.underlying24 rfl rfl rfl rfl rfl rfl (fun w f h=>Un.jX h) ?_
 refine Rf.ah (v:=.bool true) (fun X=>aM (by rw [aX];rfl) X) rfl ?_
 refine Rf.ay aa 2 rfl ?_
 refine Rf.ah (v:=.bool true) (fun X=>aM (by decide) X) rfl ?_
 refine Rf.HY aa 0 2 rfl ?_
 exact Rf.aI aa (fun _ _ h=>Pl.dG (Pl.eD h)) rfl rfl (fun α γ w h=>⟨rfl,h.ex⟩)
theorem Yu (w:World) (va:Value) (n9:Bool) (m e0:Int) (ha:Fv w va (.fin n9 m e0)) (b p:Nat) (lo hi:Int) (hf:fT b p lo hi) (hs0:Sn (Int.natAbs m) 38) (h1:lo≤e0) (h2:e0≤hi) (h3:0<m) (h4:m<((b^p:Nat):Int)) (h5:e0=lo) :
  Calls Tryz.prog 15 #[.agg #[.int .i64 ((b:Nat):Int),.int .i64 ((p:Nat):Int),.int .i64 lo,.int .i64 hi],va] w fun e w'=>e = .returned (.bool true)∧Pl.Ex w w':=by
 have f1:=hf.p1
 have f2:=hf.ku
 have f3:=hf.l
 have f4:=hf.l1
 have f5:=hf.h1
 obtain ⟨Aa,ca,rfl,ua⟩:=ha
 have hs:Sn (Int.natAbs m) 38:=hs0
 refine Rf.aA (n:=74) [.a [vI ((b:Nat):Int),vI ((p:Nat):Int),vI lo,vI hi],.a [vI 1,vB n9,.c 0 0,vI e0]] [[.slice Aa (limbs (Int.natAbs m)).length ca]] [(0,(dW (Int.natAbs m)).S)] Tryz.func15 rfl (by kernel_rfl) rfl rfl ⟨RS.in ua,trivial⟩ ?_
 refine Rf.bu aa 1 0 rfl ?_
 refine Rf.aC 1 _ _ rfl (Pl.en Tryz.func13) (fun α γ w h=>aU 1 (ig _ b p lo hi hf)) ?_
 refine Rf.aV (.bool false) rfl (fun X=>aT _ X) ?_
 refine Rf.HY aa 3 2 rfl ?_
 refine Rf.bf ?_
 refine Rf.bu aa 0 0 rfl ?_
 refine Rf.ah (v:=.bool false) (fun X=>aK (by decide) X) rfl ?_
 refine Rf.bY aa 1 2 rfl ?_
 refine Rf.ah (v:=.bool false) (fun X=>aK (by decide) X) rfl ?_
 refine Rf.bY aa 1 2 rfl ?_
 refine Rf.ah (v:=.bool true) (fun X=>aM (by decide) X) rfl ?_
 refine Rf.HY aa 1 2 rfl ?_
 refine Rf.aQ none fo ?_
 refine Rf.aD aa 34 2 rfl ?_
 refine Rf.ak 2 _ _ rfl (Pl.en Tryz.func43) (fun α γ w h=>aU 2 (Bj _ _ (limbs (Int.natAbs m)) (h.r 0 rfl) true (fM (Sn.le hs (by decide))))) ?_
 refine Rf.wz (.bool false) rfl rfl rfl rfl rfl rfl rfl (fun X=>aT _ X) ?_
 refine Rf.aD aa 34 2 rfl ?_
 refine Rf.Ej ((limbs (Int.natAbs m)).length) Tryz.underlying24 rfl rfl rfl rfl rfl rfl rfl rfl (fun w f h=>Un.jX h) ?_
 refine Rf.dL (vF) rfl (fun α γ w h=>(fun X=>aK (fun h=>by rw [Int.ofNat_eq_zero,jQ] at h;omega) X) w) ?_
 refine Rf.aD aa 34 2 rfl ?_
 refine Rf.dL (vF) rfl (fun α γ w h=>(fun X=>bM (by omega) X) w) ?_
 refine Rf.aD aa 34 2 rfl ?_
 refine Rf.dL (vF) rfl (fun α γ w h=>(fun X=>bz (by omega) X) w) ?_
 refine Rf.aD aa 34 2 rfl ?_
 refine Rf.ak 3 _ _ rfl (Pl.en Tryz.func45) (fun α γ w h=>dO 3 (bI _ b p p lo hi ((p:Nat):Int) hf.r (by omega) (by omega))) ?_
 refine Rf.ak 4 _ _ rfl (Pl.en Tryz.func44) (fun α γ w h=>aU 4 (jv _ _ _ (Int.natAbs m) (b^p) (h.r 0 rfl) (h.r 3 rfl) _ rfl)) ?_
 refine Rf.dL (vF) rfl (fun α γ w h=>(fun X=>gJ (fun h=>by have h9:=gW.1 h;omega) X) w) ?_
 refine Rf.aD aa 34 2 rfl ?_
 refine Rf.aW (by kernel_rfl) ?_
 refine Rf.aP [2,3,4,57] [0,1] [0] rfl ?_
 refine Rf.HX aa 2 0 rfl ?_
 refine Rf.aQ none fo ?_
 refine Rf.aD aa 17 2 rfl ?_
 refine Rf.dL (vT) rfl (fun α γ w h=>(fun X=>aM h5 X) w) ?_
 refine Rf.aD aa 17 2 rfl ?_
 refine Rf.aW (by kernel_rfl) ?_
 refine Rf.aP [4] [] [] rfl ?_
 repeat refine Rf.aO ?_
 exact Rf.aI aa (fun _ _ h=>Pl.dG (Pl.eD h)) rfl rfl (fun α γ w h=>⟨rfl,h.ex⟩)
theorem Yv (w:World) (va:Value) (n9:Bool) (m e0:Int) (ha:Fv w va (.fin n9 m e0)) (b p:Nat) (lo hi:Int) (hf:fT b p lo hi) (hs0:Sn (Int.natAbs m) 38) (h1:lo≤e0) (h2:e0≤hi) (h3:0<m) (h4:m<((b^p:Nat):Int)) (h5:¬ e0=lo) (h6:((b^(p-1):Nat):Int)≤m) :
  Calls Tryz.prog 15 #[.agg #[.int .i64 ((b:Nat):Int),.int .i64 ((p:Nat):Int),.int .i64 lo,.int .i64 hi],va] w fun e w'=>e = .returned (.bool true)∧Pl.Ex w w':=by
 have f1:=hf.p1
 have f2:=hf.ku
 have f3:=hf.l
 have f4:=hf.l1
 have f5:=hf.h1
 obtain ⟨Aa,ca,rfl,ua⟩:=ha
 have hs:Sn (Int.natAbs m) 38:=hs0
 refine Rf.aA (n:=74) [.a [vI ((b:Nat):Int),vI ((p:Nat):Int),vI lo,vI hi],.a [vI 1,vB n9,.c 0 0,vI e0]] [[.slice Aa (limbs (Int.natAbs m)).length ca]] [(0,(dW (Int.natAbs m)).S)] Tryz.func15 rfl (by kernel_rfl) rfl rfl ⟨RS.in ua,trivial⟩ ?_
 refine Rf.bu aa 1 0 rfl ?_
 refine Rf.aC 1 _ _ rfl (Pl.en Tryz.func13) (fun α γ w h=>aU 1 (ig _ b p lo hi hf)) ?_
 refine Rf.aV (.bool false) rfl (fun X=>aT _ X) ?_
 refine Rf.HY aa 3 2 rfl ?_
 refine Rf.bf ?_
 refine Rf.bu aa 0 0 rfl ?_
 refine Rf.ah (v:=.bool false) (fun X=>aK (by decide) X) rfl ?_
 refine Rf.bY aa 1 2 rfl ?_
 refine Rf.ah (v:=.bool false) (fun X=>aK (by decide) X) rfl ?_
 refine Rf.bY aa 1 2 rfl ?_
 refine Rf.ah (v:=.bool true) (fun X=>aM (by decide) X) rfl ?_
 refine Rf.HY aa 1 2 rfl ?_
 refine Rf.aQ none fo ?_
 refine Rf.aD aa 34 2 rfl ?_
 refine Rf.ak 2 _ _ rfl (Pl.en Tryz.func43) (fun α γ w h=>aU 2 (Bj _ _ (limbs (Int.natAbs m)) (h.r 0 rfl) true (fM (Sn.le hs (by decide))))) ?_
 refine Rf.wz (.bool false) rfl rfl rfl rfl rfl rfl rfl (fun X=>aT _ X) ?_
 refine Rf.aD aa 34 2 rfl ?_
 refine Rf.Ej ((limbs (Int.natAbs m)).length) Tryz.underlying24 rfl rfl rfl rfl rfl rfl rfl rfl (fun w f h=>Un.jX h) ?_
 refine Rf.dL (vF) rfl (fun α γ w h=>(fun X=>aK (fun h=>by rw [Int.ofNat_eq_zero,jQ] at h;omega) X) w) ?_
 refine Rf.aD aa 34 2 rfl ?_
 refine Rf.dL (vF) rfl (fun α γ w h=>(fun X=>bM (by omega) X) w) ?_
 refine Rf.aD aa 34 2 rfl ?_
 refine Rf.dL (vF) rfl (fun α γ w h=>(fun X=>bz (by omega) X) w) ?_
 refine Rf.aD aa 34 2 rfl ?_
 refine Rf.ak 3 _ _ rfl (Pl.en Tryz.func45) (fun α γ w h=>dO 3 (bI _ b p p lo hi ((p:Nat):Int) hf.r (by omega) (by omega))) ?_
 refine Rf.ak 4 _ _ rfl (Pl.en Tryz.func44) (fun α γ w h=>aU 4 (jv _ _ _ (Int.natAbs m) (b^p) (h.r 0 rfl) (h.r 3 rfl) _ rfl)) ?_
 refine Rf.dL (vF) rfl (fun α γ w h=>(fun X=>gJ (fun h=>by have h9:=gW.1 h;omega) X) w) ?_
 refine Rf.aD aa 34 2 rfl ?_
 refine Rf.aW (by kernel_rfl) ?_
 refine Rf.aP [2,3,4,57] [0,1] [0] rfl ?_
 refine Rf.HX aa 2 0 rfl ?_
 refine Rf.aQ none fo ?_
 refine Rf.aD aa 17 2 rfl ?_
 refine Rf.dL (vF) rfl (fun α γ w h=>(fun X=>aK h5 X) w) ?_
 refine Rf.aD aa 17 2 rfl ?_
 refine Rf.Be (vI (((p:Nat):Int)-1)) rfl rfl rfl rfl rfl rfl rfl rfl rfl rfl (fun α γ w h=>(fun X=>eH (by omega) X) w) ?_
 refine Rf.ak 5 _ _ rfl (Pl.en Tryz.func45) (fun α γ w h=>dO 5 (bI _ b p (p-1) lo hi (((p:Nat):Int)-1) hf.r (by omega) (by omega))) ?_
 refine Rf.ak 6 _ _ rfl (Pl.en Tryz.func44) (fun α γ w h=>aU 6 (jv _ _ _ (Int.natAbs m) (b^(p-1)) (h.r 0 rfl) (h.r 5 rfl) _ rfl)) ?_
 refine Rf.dL (vT) rfl (fun α γ w h=>(fun X=>bS (gW.2 (by omega)) X) w) ?_
 refine Rf.aD aa 17 2 rfl ?_
 refine Rf.aW (by kernel_rfl) ?_
 refine Rf.aP [4] [] [] rfl ?_
 repeat refine Rf.aO ?_
 exact Rf.aI aa (fun _ _ h=>Pl.dG (Pl.eD h)) rfl rfl (fun α γ w h=>⟨rfl,h.ex⟩)
theorem Qy (w:World) (va:Value) (n9:Bool) (m e0:Int) (ha:Fv w va (.fin n9 m e0)) (b p:Nat) (lo hi:Int) (hf:fT b p lo hi) (hs0:Sn (Int.natAbs m) 38) (h1:lo≤e0) (h2:e0≤hi) (h3:0<m) (h4:¬ m<((b^p:Nat):Int)) :
  Calls Tryz.prog 15 #[.agg #[.int .i64 ((b:Nat):Int),.int .i64 ((p:Nat):Int),.int .i64 lo,.int .i64 hi],va] w fun e w'=>e = .returned (.bool false)∧Pl.Ex w w':=by
 have f1:=hf.p1
 have f2:=hf.ku
 have f3:=hf.l
 have f4:=hf.l1
 have f5:=hf.h1
 obtain ⟨Aa,ca,rfl,ua⟩:=ha
 have hs:Sn (Int.natAbs m) 38:=hs0
 refine Rf.aA (n:=74) [.a [vI ((b:Nat):Int),vI ((p:Nat):Int),vI lo,vI hi],.a [vI 1,vB n9,.c 0 0,vI e0]] [[.slice Aa (limbs (Int.natAbs m)).length ca]] [(0,(dW (Int.natAbs m)).S)] Tryz.func15 rfl (by kernel_rfl) rfl rfl ⟨RS.in ua,trivial⟩ ?_
 refine Rf.bu aa 1 0 rfl ?_
 refine Rf.aC 1 _ _ rfl (Pl.en Tryz.func13) (fun α γ w h=>aU 1 (ig _ b p lo hi hf)) ?_
 refine Rf.aV (.bool false) rfl (fun X=>aT _ X) ?_
 refine Rf.HY aa 3 2 rfl ?_
 refine Rf.bf ?_
 refine Rf.bu aa 0 0 rfl ?_
 refine Rf.ah (v:=.bool false) (fun X=>aK (by decide) X) rfl ?_
 refine Rf.bY aa 1 2 rfl ?_
 refine Rf.ah (v:=.bool false) (fun X=>aK (by decide) X) rfl ?_
 refine Rf.bY aa 1 2 rfl ?_
 refine Rf.ah (v:=.bool true) (fun X=>aM (by decide) X) rfl ?_
 refine Rf.HY aa 1 2 rfl ?_
 refine Rf.aQ none fo ?_
 refine Rf.aD aa 34 2 rfl ?_
 refine Rf.ak 2 _ _ rfl (Pl.en Tryz.func43) (fun α γ w h=>aU 2 (Bj _ _ (limbs (Int.natAbs m)) (h.r 0 rfl) true (fM (Sn.le hs (by decide))))) ?_
 refine Rf.wz (.bool false) rfl rfl rfl rfl rfl rfl rfl (fun X=>aT _ X) ?_
 refine Rf.aD aa 34 2 rfl ?_
 refine Rf.Ej ((limbs (Int.natAbs m)).length) Tryz.underlying24 rfl rfl rfl rfl rfl rfl rfl rfl (fun w f h=>Un.jX h) ?_
 refine Rf.dL (vF) rfl (fun α γ w h=>(fun X=>aK (fun h=>by rw [Int.ofNat_eq_zero,jQ] at h;omega) X) w) ?_
 refine Rf.aD aa 34 2 rfl ?_
 refine Rf.dL (vF) rfl (fun α γ w h=>(fun X=>bM (by omega) X) w) ?_
 refine Rf.aD aa 34 2 rfl ?_
 refine Rf.dL (vF) rfl (fun α γ w h=>(fun X=>bz (by omega) X) w) ?_
 refine Rf.aD aa 34 2 rfl ?_
 refine Rf.ak 3 _ _ rfl (Pl.en Tryz.func45) (fun α γ w h=>dO 3 (bI _ b p p lo hi ((p:Nat):Int) hf.r (by omega) (by omega))) ?_
 refine Rf.ak 4 _ _ rfl (Pl.en Tryz.func44) (fun α γ w h=>aU 4 (jv _ _ _ (Int.natAbs m) (b^p) (h.r 0 rfl) (h.r 3 rfl) _ rfl)) ?_
 refine Rf.dL (vT) rfl (fun α γ w h=>(fun X=>bS (gW.2 (by omega)) X) w) ?_
 refine Rf.aD aa 34 2 rfl ?_
 refine Rf.aW (by kernel_rfl) ?_
 refine Rf.aP [2,3,4,57] [0,1] [0] rfl ?_
 refine Rf.HX aa 2 2 rfl ?_
 exact Rf.aI aa (fun _ _ h=>Pl.dG (Pl.eD h)) rfl rfl (fun α γ w h=>⟨rfl,h.ex⟩)
theorem Qz (w:World) (va:Value) (n9:Bool) (m e0:Int) (ha:Fv w va (.fin n9 m e0)) (b p:Nat) (lo hi:Int) (hf:fT b p lo hi) (hs0:Sn (Int.natAbs m) 38) (h1:lo≤e0) (h2:e0≤hi) (h3:0<m) (h4:m<((b^p:Nat):Int)) (h5:¬ e0=lo) (h6:¬ ((b^(p-1):Nat):Int)≤m) :
  Calls Tryz.prog 15 #[.agg #[.int .i64 ((b:Nat):Int),.int .i64 ((p:Nat):Int),.int .i64 lo,.int .i64 hi],va] w fun e w'=>e = .returned (.bool false)∧Pl.Ex w w':=by
 have f1:=hf.p1
 have f2:=hf.ku
 have f3:=hf.l
 have f4:=hf.l1
 have f5:=hf.h1
 obtain ⟨Aa,ca,rfl,ua⟩:=ha
 have hs:Sn (Int.natAbs m) 38:=hs0
 refine Rf.aA (n:=74) [.a [vI ((b:Nat):Int),vI ((p:Nat):Int),vI lo,vI hi],.a [vI 1,vB n9,.c 0 0,vI e0]] [[.slice Aa (limbs (Int.natAbs m)).length ca]] [(0,(dW (Int.natAbs m)).S)] Tryz.func15 rfl (by kernel_rfl) rfl rfl ⟨RS.in ua,trivial⟩ ?_
 refine Rf.bu aa 1 0 rfl ?_
 refine Rf.aC 1 _ _ rfl (Pl.en Tryz.func13) (fun α γ w h=>aU 1 (ig _ b p lo hi hf)) ?_
 refine Rf.aV (.bool false) rfl (fun X=>aT _ X) ?_
 refine Rf.HY aa 3 2 rfl ?_
 refine Rf.bf ?_
 refine Rf.bu aa 0 0 rfl ?_
 refine Rf.ah (v:=.bool false) (fun X=>aK (by decide) X) rfl ?_
 refine Rf.bY aa 1 2 rfl ?_
 refine Rf.ah (v:=.bool false) (fun X=>aK (by decide) X) rfl ?_
 refine Rf.bY aa 1 2 rfl ?_
 refine Rf.ah (v:=.bool true) (fun X=>aM (by decide) X) rfl ?_
 refine Rf.HY aa 1 2 rfl ?_
 refine Rf.aQ none fo ?_
 refine Rf.aD aa 34 2 rfl ?_
 refine Rf.ak 2 _ _ rfl (Pl.en Tryz.func43) (fun α γ w h=>aU 2 (Bj _ _ (limbs (Int.natAbs m)) (h.r 0 rfl) true (fM (Sn.le hs (by decide))))) ?_
 refine Rf.wz (.bool false) rfl rfl rfl rfl rfl rfl rfl (fun X=>aT _ X) ?_
 refine Rf.aD aa 34 2 rfl ?_
 refine Rf.Ej ((limbs (Int.natAbs m)).length) Tryz.underlying24 rfl rfl rfl rfl rfl rfl rfl rfl (fun w f h=>Un.jX h) ?_
 refine Rf.dL (vF) rfl (fun α γ w h=>(fun X=>aK (fun h=>by rw [Int.ofNat_eq_zero,jQ] at h;omega) X) w) ?_
 refine Rf.aD aa 34 2 rfl ?_
 refine Rf.dL (vF) rfl (fun α γ w h=>(fun X=>bM (by omega) X) w) ?_
 refine Rf.aD aa 34 2 rfl ?_
 refine Rf.dL (vF) rfl (fun α γ w h=>(fun X=>bz (by omega) X) w) ?_
 refine Rf.aD aa 34 2 rfl ?_
 refine Rf.ak 3 _ _ rfl (Pl.en Tryz.func45) (fun α γ w h=>dO 3 (bI _ b p p lo hi ((p:Nat):Int) hf.r (by omega) (by omega))) ?_
 refine Rf.ak 4 _ _ rfl (Pl.en Tryz.func44) (fun α γ w h=>aU 4 (jv _ _ _ (Int.natAbs m) (b^p) (h.r 0 rfl) (h.r 3 rfl) _ rfl)) ?_
 refine Rf.dL (vF) rfl (fun α γ w h=>(fun X=>gJ (fun h=>by have h9:=gW.1 h;omega) X) w) ?_
 refine Rf.aD aa 34 2 rfl ?_
 refine Rf.aW (by kernel_rfl) ?_
 refine Rf.aP [2,3,4,57] [0,1] [0] rfl ?_
 refine Rf.HX aa 2 0 rfl ?_
 refine Rf.aQ none fo ?_
 refine Rf.aD aa 17 2 rfl ?_
 refine Rf.dL (vF) rfl (fun α γ w h=>(fun X=>aK h5 X) w) ?_
 refine Rf.aD aa 17 2 rfl ?_
 refine Rf.Be (vI (((p:Nat):Int)-1)) rfl rfl rfl rfl rfl rfl rfl rfl rfl rfl (fun α γ w h=>(fun X=>eH (by omega) X) w) ?_
 refine Rf.ak 5 _ _ rfl (Pl.en Tryz.func45) (fun α γ w h=>dO 5 (bI _ b p (p-1) lo hi (((p:Nat):Int)-1) hf.r (by omega) (by omega))) ?_
 refine Rf.ak 6 _ _ rfl (Pl.en Tryz.func44) (fun α γ w h=>aU 6 (jv _ _ _ (Int.natAbs m) (b^(p-1)) (h.r 0 rfl) (h.r 5 rfl) _ rfl)) ?_
 refine Rf.dL (vF) rfl (fun α γ w h=>(fun X=>gJ (fun h=>h6 (by have h9:=gW.1 h;omega)) X) w) ?_
 refine Rf.aD aa 17 2 rfl ?_
 refine Rf.aW (by kernel_rfl) ?_
 refine Rf.aP [4] [] [] rfl ?_
 repeat refine Rf.aO ?_
 exact Rf.aI aa (fun _ _ h=>Pl.dG (Pl.eD h)) rfl rfl (fun α γ w h=>⟨rfl,h.ex⟩)
theorem qb {b p:Nat} {lo hi m e:Int} {n:Bool} (hf:fT b p lo hi) (h:bO b p lo hi (.fin n m e)):Sn (Int.natAbs m) 3:=aaE hf h
theorem ed (w:World) (va:Value) (x:Fl) (ha:Fv w va x) (b p:Nat) (lo hi:Int) (hf:fT b p lo hi) (hx:bO b p lo hi x) :
  Calls Tryz.prog 15 #[.agg #[.int .i64 ((b:Nat):Int),.int .i64 ((p:Nat):Int),.int .i64 lo,.int .i64 hi],va] w fun e w'=>e = .returned (.bool true)∧Pl.Ex w w':=by
 cases x with
 | zero n=>exact Yr w va n ha b p lo hi hf
 | inf n=>exact Yt w va n ha b p lo hi hf
 | fin n m e0 =>
  have hs:=Sn.le (qb hf hx) (show 3≤38 by decide)
  obtain ⟨⟨x1,x2,x3,x4⟩,x5⟩:=hx
  by_cases h:e0=lo
  · exact Yu w va n m e0 ha b p lo hi hf hs x1 x5 x2 x3 h
  · exact Yv w va n m e0 ha b p lo hi hf hs x1 x5 x2 x3 h (x4.resolve_left h)
theorem Uz (b:Nat) (n:Bool):vf b (.zero n)=(((sg n 0*((b^0:Nat):Int):Int)):Rat):=by
 rw [show sg n 0=0 by cases n<;>rfl,Int.zero_mul];rfl
theorem QA (w:World) (va:Value) (n9:Bool) (m e0:Int) (ha:Fv w va (.fin n9 m e0)) (b p:Nat) (lo hi:Int) (hf:fT b p lo hi) (hx:bO b p lo hi (.fin n9 m e0)) (h0:0≤e0) :
  Calls Tryz.prog 18 #[.agg #[.int .i64 ((b:Nat):Int),.int .i64 ((p:Nat):Int),.int .i64 lo,.int .i64 hi],va] w fun e w'=>∃ u,e = .returned (.tuple #[u,.bool true])∧Qn w' u (vf b (.fin n9 m e0)) 41 70∧Pl.Ex w w':=by
 have f1:=hf.p1
 have f2:=hf.ku
 have f3:=hf.l
 have f4:=hf.l1
 have f5:=hf.h1
 obtain ⟨k,rfl⟩:∃ k:Nat,e0=(k:Int):=⟨e0.toNat,by omega⟩
 have hm0:=hx.1.2.1
 have x1:=hx.1.1
 have x2:=hx.2
 obtain ⟨z9,GY⟩:∃ z,sg n9 (Int.natAbs m)=z:=⟨_,rfl⟩
 have lz:Sz z9 3:=by rw [← GY];show (limbs (sg n9 (Int.natAbs m)).natAbs).length≤3;rw [lZ];exact qb hf hx
 obtain ⟨Aa,ca,rfl,ua⟩:=ha
 refine Rf.aA (n:=47) [.a [vI ((b:Nat):Int),vI ((p:Nat):Int),vI lo,vI hi],.a [vI 1,vB n9,.c 0 0,vI ((k:Nat):Int)]] [[.slice Aa (limbs (Int.natAbs m)).length ca]] [(0,(dW (Int.natAbs m)).S)] Tryz.func18 rfl (by kernel_rfl) rfl rfl ⟨RS.in ua,trivial⟩ ?_
 refine Rf.bu aa 1 0 rfl ?_
 refine Rf.aC 1 _ _ rfl (Pl.en Tryz.func15) (fun α γ w h=>aU 1 (ed _ _ (.fin n9 m ((k:Nat):Int)) (Fv.mk (x:=(.fin n9 m ((k:Nat):Int))) (h.r 0 rfl)) b p lo hi hf hx)) ?_
 refine Rf.aV (.bool false) rfl (fun X=>aT _ X) ?_
 refine Rf.ay aa 3 rfl ?_
 refine Rf.ah (v:=.bool false) (fun X=>aK (by decide) X) rfl ?_
 refine Rf.bY aa 2 3 rfl ?_
 refine Rf.aC 2 _ _ rfl (Pl.en Tryz.func49) (fun α γ w h=>gz 2 (kL _ n9 _ (limbs (Int.natAbs m)) (h.r 0 rfl) _ (aJ _) z9 GY)) ?_
 refine Rf.bY aa 0 3 rfl ?_
 refine Rf.ah (v:=.bool true) (fun X=>bS (by omega) X) rfl ?_
 refine Rf.HY aa 1 0 rfl ?_
 refine Rf.aQ none fo ?_
 refine Rf.aD aa 10 4 rfl ?_
 refine Rf.ak 3 _ _ rfl (Pl.en Tryz.func45) (fun α γ w h=>dO 3 (bI _ b p k lo hi ((k:Nat):Int) hf.r (by omega) (by omega))) ?_
 refine Rf.ak 4 _ _ rfl (Pl.en Tryz.func49) (fun α γ w h=>gz 4 (kL _ false _ (limbs (b^k)) (h.r 3 rfl) _ (aJ _) (((b^k):Nat):Int) rfl)) ?_
 refine Rf.ak 5 _ _ rfl (Pl.en Tryz.func51) (fun α γ w h=>gz 5 (Um _ _ _ z9 (((b^k):Nat):Int) (h.r 2 rfl) (h.r 4 rfl) (Sz.le lz (by decide)) (Sz.le (Sn.sz (bK hf.r (by omega):Sn (b^k) 38)) (by decide)) _ rfl)) ?_
 refine Rf.ak 6 _ _ rfl (Pl.en Tryz.func50) (fun α γ w h=>iP 6 (xH _ _ (z9*(((b^k):Nat):Int)) 41 (h.r 5 rfl) (Sz.mul lz (Sn.sz (bK hf.r (by omega):Sn (b^k) 38)) (by decide):Sz (z9*(((b^k):Nat):Int)) 41))) ?_
 refine Rf.aD aa 10 4 rfl ?_
 refine Rf.aW (by kernel_rfl) ?_
 refine Rf.aP [2,3,4,5,6] [0,1,2,3] [0,2,6] rfl ?_
 repeat refine Rf.aO ?_
 exact Rf.aI aa (fun _ _ h=>h) rfl rfl (fun α γ w h=>⟨_,rfl,by rw [Qx (Int.le_of_lt hm0),GY];exact Qn.le (h.r 6 rfl) (by decide) (by decide),h.ex⟩)
theorem QB (w:World) (va:Value) (n9:Bool) (m e0:Int) (ha:Fv w va (.fin n9 m e0)) (b p:Nat) (lo hi:Int) (hf:fT b p lo hi) (hx:bO b p lo hi (.fin n9 m e0)) (h0:e0<0) :
  Calls Tryz.prog 18 #[.agg #[.int .i64 ((b:Nat):Int),.int .i64 ((p:Nat):Int),.int .i64 lo,.int .i64 hi],va] w fun e w'=>∃ u,e = .returned (.tuple #[u,.bool true])∧Qn w' u (vf b (.fin n9 m e0)) 41 70∧Pl.Ex w w':=by
 have f1:=hf.p1
 have f2:=hf.ku
 have f3:=hf.l
 have f4:=hf.l1
 have f5:=hf.h1
 obtain ⟨k,rfl⟩:∃ k:Nat,e0 = -(k:Int):=⟨(-e0).toNat,by omega⟩
 have hm0:=hx.1.2.1
 have x1:=hx.1.1
 have x2:=hx.2
 obtain ⟨z9,GY⟩:∃ z,sg n9 (Int.natAbs m)=z:=⟨_,rfl⟩
 have lz:Sz z9 3:=by rw [← GY];show (limbs (sg n9 (Int.natAbs m)).natAbs).length≤3;rw [lZ];exact qb hf hx
 obtain ⟨Aa,ca,rfl,ua⟩:=ha
 refine Rf.aA (n:=47) [.a [vI ((b:Nat):Int),vI ((p:Nat):Int),vI lo,vI hi],.a [vI 1,vB n9,.c 0 0,vI (-((k:Nat):Int))]] [[.slice Aa (limbs (Int.natAbs m)).length ca]] [(0,(dW (Int.natAbs m)).S)] Tryz.func18 rfl (by kernel_rfl) rfl rfl ⟨RS.in ua,trivial⟩ ?_
 refine Rf.bu aa 1 0 rfl ?_
 refine Rf.aC 1 _ _ rfl (Pl.en Tryz.func15) (fun α γ w h=>aU 1 (ed _ _ (.fin n9 m (-((k:Nat):Int))) (Fv.mk (x:=(.fin n9 m (-((k:Nat):Int)))) (h.r 0 rfl)) b p lo hi hf hx)) ?_
 refine Rf.aV (.bool false) rfl (fun X=>aT _ X) ?_
 refine Rf.ay aa 3 rfl ?_
 refine Rf.ah (v:=.bool false) (fun X=>aK (by decide) X) rfl ?_
 refine Rf.bY aa 2 3 rfl ?_
 refine Rf.aC 2 _ _ rfl (Pl.en Tryz.func49) (fun α γ w h=>gz 2 (kL _ n9 _ (limbs (Int.natAbs m)) (h.r 0 rfl) _ (aJ _) z9 GY)) ?_
 refine Rf.bY aa 0 3 rfl ?_
 refine Rf.ah (v:=.bool false) (fun X=>gJ (by omega) X) rfl ?_
 refine Rf.HY aa 2 0 rfl ?_
 refine Rf.aQ none fo ?_
 refine Rf.aD aa 14 4 rfl ?_
 refine Rf.wz (.int .i64 ((k:Nat):Int)) rfl rfl rfl rfl rfl rfl rfl (fun X=>(qY (by omega) X).trans (by rw [Int.neg_neg])) ?_
 refine Rf.ak 3 _ _ rfl (Pl.en Tryz.func45) (fun α γ w h=>dO 3 (bI _ b p k lo hi ((k:Nat):Int) hf.r (by omega) (by omega))) ?_
 refine Rf.ak 4 _ _ rfl (Pl.en Tryz.func49) (fun α γ w h=>gz 4 (kL _ false _ (limbs (b^k)) (h.r 3 rfl) _ (aJ _) (((b^k):Nat):Int) rfl)) ?_
 refine Rf.ak 5 (pI (Rat.divInt z9 ((b^k:Nat):Int)) 3 70) (.t [.a [.c 5 0,.c 5 1,.c 5 2],vI 0]) rfl (Pl.en Tryz.func52) (fun α γ w h=>nJ 5 (Ik _ _ _ z9 (b^k) 3 (h.r 2 rfl) (h.r 4 rfl) lz (by omega) (Sn.le (bK hf.r (by omega):Sn (b^k) 38) (by omega)) (Nat.pos_iff_ne_zero.1 (Nat.pow_pos (by have:=hf.b2;omega))))) ?_
 refine Rf.aD aa 14 4 rfl ?_
 refine Rf.aW (by kernel_rfl) ?_
 refine Rf.aP [4,5,7] [2,4] [5] rfl ?_
 refine Rf.HX aa 1 5 rfl ?_
 exact Rf.aI aa (fun _ _ h=>h) rfl rfl (fun α γ w h=>⟨_,rfl,by rw [Bi hf.b2 (Int.le_of_lt hm0),GY];exact Qn.le (h.r 5 rfl) (by decide) (by decide),h.ex⟩)
theorem QC (w:World) (va:Value) (n9:Bool) (ha:Fv w va (.zero n9)) (b p:Nat) (lo hi:Int) (hf:fT b p lo hi) :
  Calls Tryz.prog 18 #[.agg #[.int .i64 ((b:Nat):Int),.int .i64 ((p:Nat):Int),.int .i64 lo,.int .i64 hi],va] w fun e w'=>∃ u,e = .returned (.tuple #[u,.bool true])∧Qn w' u (vf b (.zero n9)) 41 70∧Pl.Ex w w':=by
 have f1:=hf.p1
 have f2:=hf.ku
 have f3:=hf.l
 have f4:=hf.l1
 have f5:=hf.h1
 obtain ⟨z9,GY⟩:∃ z,sg n9 0=z:=⟨_,rfl⟩
 have lz:Sz z9 3:=by rw [← GY];cases n9<;>exact Sz.zero
 have hx:bO b p lo hi (.zero n9):=trivial
 obtain ⟨Aa,ca,rfl,ua⟩:=ha
 refine Rf.aA (n:=47) [.a [vI ((b:Nat):Int),vI ((p:Nat):Int),vI lo,vI hi],.a [vI 0,vB n9,.c 0 0,vI 0]] [[.slice Aa (limbs 0).length ca]] [(0,(dW 0).S)] Tryz.func18 rfl (by kernel_rfl) rfl rfl ⟨RS.in ua,trivial⟩ ?_
 refine Rf.bu aa 1 0 rfl ?_
 refine Rf.aC 1 _ _ rfl (Pl.en Tryz.func15) (fun α γ w h=>aU 1 (ed _ _ (.zero n9) (Fv.mk (x:=(.zero n9)) (h.r 0 rfl)) b p lo hi hf hx)) ?_
 refine Rf.aV (.bool false) rfl (fun X=>aT _ X) ?_
 refine Rf.ay aa 3 rfl ?_
 refine Rf.ah (v:=.bool false) (fun X=>aK (by decide) X) rfl ?_
 refine Rf.bY aa 2 3 rfl ?_
 refine Rf.aC 2 _ _ rfl (Pl.en Tryz.func49) (fun α γ w h=>gz 2 (kL _ n9 _ (limbs 0) (h.r 0 rfl) _ (aJ _) z9 GY)) ?_
 refine Rf.bY aa 0 3 rfl ?_
 refine Rf.ah (v:=.bool true) (fun X=>bS (by decide) X) rfl ?_
 refine Rf.HY aa 1 0 rfl ?_
 refine Rf.aQ none fo ?_
 refine Rf.aD aa 10 4 rfl ?_
 refine Rf.ak 3 _ _ rfl (Pl.en Tryz.func45) (fun α γ w h=>dO 3 (bI _ b p 0 lo hi 0 hf.r (by omega) (by omega))) ?_
 refine Rf.ak 4 _ _ rfl (Pl.en Tryz.func49) (fun α γ w h=>gz 4 (kL _ false _ (limbs (b^0)) (h.r 3 rfl) _ (aJ _) (((b^0):Nat):Int) rfl)) ?_
 refine Rf.ak 5 _ _ rfl (Pl.en Tryz.func51) (fun α γ w h=>gz 5 (Um _ _ _ z9 (((b^0):Nat):Int) (h.r 2 rfl) (h.r 4 rfl) (Sz.le lz (by decide)) (Sz.le (Sn.sz (bK hf.r (by omega):Sn (b^0) 38)) (by decide)) _ rfl)) ?_
 refine Rf.ak 6 _ _ rfl (Pl.en Tryz.func50) (fun α γ w h=>iP 6 (xH _ _ (z9*(((b^0):Nat):Int)) 41 (h.r 5 rfl) (Sz.mul lz (Sn.sz (bK hf.r (by omega):Sn (b^0) 38)) (by decide):Sz (z9*(((b^0):Nat):Int)) 41))) ?_
 refine Rf.aD aa 10 4 rfl ?_
 refine Rf.aW (by kernel_rfl) ?_
 refine Rf.aP [2,3,4,5,6] [0,1,2,3] [0,2,6] rfl ?_
 repeat refine Rf.aO ?_
 exact Rf.aI aa (fun _ _ h=>h) rfl rfl (fun α γ w h=>⟨_,rfl,by rw [Uz,GY];exact Qn.le (h.r 6 rfl) (by decide) (by decide),h.ex⟩)
theorem gL (w:World) (va:Value) (x:Fl) (ha:Fv w va x) (b p:Nat) (lo hi:Int) (hf:fT b p lo hi) (hx:bO b p lo hi x) (hi0:∀ n,x≠.inf n) :
  Calls Tryz.prog 18 #[.agg #[.int .i64 ((b:Nat):Int),.int .i64 ((p:Nat):Int),.int .i64 lo,.int .i64 hi],va] w fun e w'=>∃ u,e = .returned (.tuple #[u,.bool true])∧Qn w' u (vf b x) 41 70∧Pl.Ex w w':=by
 cases x with
 | zero n=>exact QC w va n ha b p lo hi hf
 | inf n=>exact absurd rfl (hi0 n)
 | fin n m e0 =>
  by_cases h:0≤e0
  · exact QA w va n m e0 ha b p lo hi hf hx h
  · exact QB w va n m e0 ha b p lo hi hf hx (by omega)
theorem QD (w:World) (va:Value) (n9:Bool) (ha:Fv w va (.inf n9)) (b p:Nat) (lo hi:Int) (hf:fT b p lo hi) :
  Calls Tryz.prog 18 #[.agg #[.int .i64 ((b:Nat):Int),.int .i64 ((p:Nat):Int),.int .i64 lo,.int .i64 hi],va] w fun e w'=>e = .returned (.tuple #[.agg #[.bool false,.slice none 0 0,.slice none 0 0],.bool false])∧Pl.Ex w w':=by
 have hx:bO b p lo hi (.inf n9):=trivial
 obtain ⟨Aa,ca,rfl,ua⟩:=ha
 refine Rf.aA (n:=47) [.a [vI ((b:Nat):Int),vI ((p:Nat):Int),vI lo,vI hi],.a [vI 2,vB n9,.c 0 0,vI 0]] [[.slice Aa (limbs 0).length ca]] [(0,(dW 0).S)] Tryz.func18 rfl (by kernel_rfl) rfl rfl ⟨RS.in ua,trivial⟩ ?_
 refine Rf.bu aa 1 0 rfl ?_
 refine Rf.aC 1 _ _ rfl (Pl.en Tryz.func15) (fun α γ w h=>aU 1 (ed _ _ (.inf n9) (Fv.mk (x:=(.inf n9)) (h.r 0 rfl)) b p lo hi hf hx)) ?_
 refine Rf.aV (.bool false) rfl (fun X=>aT _ X) ?_
 refine Rf.ay aa 3 rfl ?_
 refine Rf.ah (v:=.bool true) (fun X=>aM (by decide) X) rfl ?_
 refine Rf.bY aa 1 3 rfl ?_
 refine Rf.gU (.a [vF,vN,vN]) rfl rfl rfl (fun _ _=>rfl) (fun α γ X=>by kernel_rfl) ?_
 refine Rf.HY aa 0 3 rfl ?_
 exact Rf.aI aa (fun _ _ h=>h) rfl rfl (fun α γ w h=>⟨rfl,h.ex⟩)
end Go.Proofs.YtgcieamfidoaoaaGreatDoor
/- The document: turned, alike, next, previous. -/
namespace Go.Proofs.YtgcieamfidoaoaaGreatDoor
open Go.RowKit Rf Fm
set_option maxRecDepth 100000
theorem UA {P:Program} {T:TypeId} {x y:Operand} (hu:P.underlying T=some .bool) (a b:Bool) (X:World):Pl.Bn P .eql T x y (.bool a) (.bool b) X = .ok (.bool (a==b)) X:=by
 cases a<;>cases b<;>simp [Pl.Bn,eqGuard,binOp,run_equal_bool _ _ _ _ hu]
theorem Fv.turn {w:World} {s:Value} {x:Fl} (u:Un w s (mn x)):Fv w (.agg #[.int .i64 (kd x),.bool (!ng x),s,.int .i64 (xp x)]) x.turn:=by
 cases x with
 | zero n=>exact Fv.mk (x:=.zero !n) u
 | inf n=>exact Fv.mk (x:=.inf !n) u
 | fin n m e=>exact Fv.mk (x:=.fin (!n) m e) u
theorem UB (w:World) (va vb:Value) (x y:Fl) (ha:Fv w va x) (hb:Fv w vb y) (hk:kd x=kd y) (hn:(ng x==ng y)=true) (hx:xp x=xp y) (hm:mn x=mn y) :
  Calls Tryz.prog 21 #[va,vb] w fun e w'=>e = .returned (.bool true)∧Pl.Ex w w':=by
 obtain ⟨Aa,ca,rfl,ua⟩:=ha
 obtain ⟨Ab,cb,rfl,ub⟩:=hb
 refine Rf.aA (n:=31) [.a [vI (kd x),vB (ng x),.c 0 0,vI (xp x)],.a [vI (kd y),vB (ng y),.c 1 0,vI (xp y)]] [[.slice Aa (limbs (mn x)).length ca],[.slice Ab (limbs (mn y)).length cb]] [(0,(dW (mn x)).S),(1,(dW (mn y)).S)] Tryz.func21 rfl (by kernel_rfl) rfl rfl ⟨RS.in ua,RS.in ub,trivial⟩ ?_
 refine Rf.bu aa 1 0 rfl ?_
 refine Rf.ah (v:=.bool true) (fun X=>aM hk X) rfl ?_
 refine Rf.ay aa 2 rfl ?_
 refine Rf.ah (v:=.bool true) (fun X=>(UA (by kernel_rfl) _ _ X).trans (by rw [hn])) rfl ?_
 refine Rf.ay aa 2 rfl ?_
 refine Rf.ah (v:=.bool true) (fun X=>aM hx X) rfl ?_
 refine Rf.ay aa 2 rfl ?_
 refine Rf.aC 2 _ _ rfl (Pl.en Tryz.func57) (fun α γ w h=>aU 2 (Yx _ _ _ (limbs (mn x)) (limbs (mn y)) (h.r 0 rfl) (h.r 1 rfl) true (decide_eq_true (congrArg limbs hm)))) ?_
 refine Rf.HY aa 0 2 rfl ?_
 exact Rf.aI aa (fun _ _ h=>h) rfl rfl (fun α γ w h=>⟨rfl,h.ex⟩)
theorem bH (w:World) (va vb:Value) (x y:Fl) (ha:Fv w va x) (hb:Fv w vb y) (h:x=y) :
  Calls Tryz.prog 21 #[va,vb] w fun e w'=>e = .returned (.bool true)∧Pl.Ex w w':=by
 subst h
 exact UB w va vb x x ha hb rfl (by cases ng x<;>rfl) rfl rfl
end Go.Proofs.YtgcieamfidoaoaaGreatDoor
/- Round by any direction; made rationals. -/
namespace Go.Proofs.YtgcieamfidoaoaaGreatDoor
open Go.RowKit Rf Fm
set_option maxRecDepth 100000
theorem QG (w:World) (va:Value) (q:Rat) (ha:Qn w va q 9 9) (b p:Nat) (lo hi:Int) (hf:fT b p lo hi) (d:Nat) (hd:d<5) (hq:q=0) :
  Calls Tryz.prog 30 #[va,.agg #[.int .i64 ((b:Nat):Int),.int .i64 ((p:Nat):Int),.int .i64 lo,.int .i64 hi],.int .i64 ((d:Nat):Int)] w fun e w'=>∃ u,e = .returned (.tuple #[u,.int .i64 0])∧Fv w' u (rd b p lo hi d q)∧Pl.Ex w w':=by
 obtain ⟨Aa,ca,Ba,ba,rfl,ua,ta,za,ya⟩:=ha
 have f1:=hf.p1
 have f2:=hf.ku
 have f3:=hf.l
 have f4:=hf.l1
 have f5:=hf.h1
 refine Rf.aA (n:=122) [.a [.c 0 0,.c 0 1,.c 0 2],.a [vI ((b:Nat):Int),vI ((p:Nat):Int),vI lo,vI hi],vI ((d:Nat):Int)] [[.bool (decide (Rat.num q<0)),.slice Aa (limbs (Rat.num q).natAbs).length ca,.slice Ba (limbs (Rat.den q)).length ba]] [(0,(pI q 9 9).S)] Tryz.func30 rfl (by kernel_rfl) rfl rfl ⟨RS.in ⟨Aa,ca,Ba,ba,rfl,ua,ta,za,ya⟩,trivial⟩ ?_
 refine Rf.bu aa 1 0 rfl ?_
 refine Rf.aC 1 (TR) (.a [.v (.func (.func 111) #[] #[]),.v (.func (.func 110) #[] #[]),.v (.func (.func 112) #[] #[]),.v (.func (.func 110) #[] #[]),.v (.func (.func 113) #[] #[]),.v (.func (.func 114) #[] #[]),.v (.func (.func 115) #[] #[]),.v (.func (.func 116) #[] #[]),.v (.func (.func 117) #[] #[]),.v (.func (.func 118) #[] #[])]) rfl (Pl.en Tryz.func69) (fun α γ w h=>xE (.a [.v (.func (.func 111) #[] #[]),.v (.func (.func 110) #[] #[]),.v (.func (.func 112) #[] #[]),.v (.func (.func 110) #[] #[]),.v (.func (.func 113) #[] #[]),.v (.func (.func 114) #[] #[]),.v (.func (.func 115) #[] #[]),.v (.func (.func 116) #[] #[]),.v (.func (.func 117) #[] #[]),.v (.func (.func 118) #[] #[])]) 1 (fun _ _=>rfl) (pO _)) ?_
 refine Rf.bY aa 0 3 rfl ?_
 refine Rf.aC 2 _ _ rfl (Pl.en Tryz.func13) (fun α γ w h=>aU 2 (ig _ b p lo hi hf)) ?_
 refine Rf.aV (.bool false) rfl (fun X=>aT _ X) ?_
 refine Rf.ay aa 4 rfl ?_
 refine Rf.ah (v:=.bool false) (fun X=>bM (by omega) X) rfl ?_
 refine Rf.ay aa 4 rfl ?_
 refine Rf.ah (v:=.bool false) (fun X=>gJ (by omega) X) rfl ?_
 refine Rf.bY aa 2 4 rfl ?_
 refine Rf.aC 3 _ _ rfl (Pl.en Tryz.func70) (fun α γ w h=>aU 3 (BV _ _ q 9 9 (h.r 0 rfl))) ?_
 refine Rf.ah (v:=.bool true) (fun X=>aM (by rw [hq];rfl) X) rfl ?_
 refine Rf.bY aa 1 0 rfl ?_
 refine Rf.gU (.a [vI 0,vF,vN,vI 0]) rfl rfl rfl (fun _ _=>rfl) (fun α γ X=>by kernel_rfl) ?_
 refine Rf.HY aa 0 4 rfl ?_
 exact Rf.aI aa (fun _ _ h=>h) rfl rfl (fun α γ w h=>⟨_,rfl,by rw [hq,uM hf.b2 hf.p1];exact Fv.mk (x:=.zero false) (iA _),h.ex⟩)
theorem aR (w:World) (va:Value) (q:Rat) (ha:Qn w va q 9 9) (b p:Nat) (lo hi:Int) (hf:fT b p lo hi) (d:Nat) (hd:d<5) :
  Calls Tryz.prog 30 #[va,.agg #[.int .i64 ((b:Nat):Int),.int .i64 ((p:Nat):Int),.int .i64 lo,.int .i64 hi],.int .i64 ((d:Nat):Int)] w fun e w'=>∃ u,e = .returned (.tuple #[u,.int .i64 0])∧Fv w' u (rd b p lo hi d q)∧Pl.Ex w w':=by
 by_cases h:q=0
 · exact QG w va q ha b p lo hi hf d hd h
 · exact Ff w va q ha b p lo hi hf d hd h
end Go.Proofs.YtgcieamfidoaoaaGreatDoor
/- Small rationals, rounded; small rationals and floats made. -/
namespace Go.Proofs.YtgcieamfidoaoaaGreatDoor
open Go.RowKit Rf Fm
set_option maxRecDepth 100000
theorem Sz.i64 {z:Int} (h1 : -9223372036854775808≤z) (h2:z≤9223372036854775807):Sz z 2:=(Sn.of (by rw [show (4294967296:Nat)^2=18446744073709551616 by decide];omega):Sn z.natAbs 2)
def goI (d:Nat) (neg odd:Bool) (r D:Int):Bool :=
 if d=0 then decide (D<2*r)||decide (2*r=D)&&odd else if d=1 then decide (D≤2*r) else if d=3 then !neg&&decide (0<r) else if d=4 then neg&&decide (0<r) else false
theorem Yy {b:Nat} {S:Rat} {e N D:Int} (hD:0<D) (hx:S*bp b (-e)=(N:Rat)/(D:Rat)) (d:Nat) (neg odd:Bool):nR d neg odd (rest b S e)=goI d neg odd (N%D) D:=by
 have h1:=Il hD hx
 have h2:=BP hD hx
 have a1:decide (1/2<rest b S e)=decide (D<2*(N%D)):=decide_eq_decide.2 ⟨fun h=>by
  rcases Int.lt_trichotomy (2*(N%D)) D with h9 | h9 | h9
  · have:=h1.1.1 h9;grind
  · have:=h1.2.1 h9;grind
  · exact h9,fun h=>by
  rcases (Rat.le_total:rest b S e≤1/2∨1/2≤rest b S e) with h9 | h9
  · by_cases h8:rest b S e=1/2
    · have:=h1.2.2 h8;omega
    · have:=h1.1.2 (by grind);omega
  · by_cases h8:rest b S e=1/2
    · have:=h1.2.2 h8;omega
    · grind⟩
 have a2:decide (rest b S e=1/2)=decide (2*(N%D)=D):=decide_eq_decide.2 h1.2.symm
 have a3:decide (1/2≤rest b S e)=decide (D≤2*(N%D)):=decide_eq_decide.2 ⟨fun h=>by
  refine Int.not_lt.1 fun h9=>?_
  have:=h1.1.1 h9;grind,fun h=>by
  refine Rat.not_lt.1 fun h9=>?_
  have:=h1.1.2 h9;omega⟩
 have a4:decide (0<rest b S e)=decide (0<N%D):=decide_eq_decide.2 h2.symm
 unfold nR goI
 rw [a1,a2,a3,a4]
theorem UC {neg:Bool} {n m:Nat} (hn:0<n) (hm:0<m):(Rat.divInt (if neg then -(n:Int) else n) (m:Int)<0↔neg=true)∧Rat.divInt (if neg then -(n:Int) else n) (m:Int)≠0∧(if Rat.divInt (if neg then -(n:Int) else n) (m:Int)<0 then -Rat.divInt (if neg then -(n:Int) else n) (m:Int) else Rat.divInt (if neg then -(n:Int) else n) (m:Int))=((n:Int):Rat)/((m:Int):Rat):=by
 have h1:(0:Rat)<((n:Int):Rat):=Rat.intCast_pos.2 (by omega)
 have h2:(0:Rat)<((m:Int):Rat):=Rat.intCast_pos.2 (by omega)
 have h3:(0:Rat)<((n:Int):Rat)/((m:Int):Rat):=by rw [Rat.div_def];exact Rat.mul_pos h1 (Rat.inv_pos.2 h2)
 rw [Rat.divInt_eq_div]
 cases neg with
 | false=>show (((n:Int):Rat)/_<0↔_)∧((n:Int):Rat)/_≠0∧(if ((n:Int):Rat)/_<0 then _ else ((n:Int):Rat)/_)=_;exact ⟨by simp;grind,by grind,by rw [if_neg (by grind)]⟩
 | true =>
  show (((-(n:Int):Int):Rat)/_<0↔_)∧((-(n:Int):Int):Rat)/_≠0∧(if ((-(n:Int):Int):Rat)/_<0 then -(((-(n:Int):Int):Rat)/_) else _)=_
  have h4:((-(n:Int):Int):Rat)/((m:Int):Rat) = -(((n:Int):Rat)/((m:Int):Rat)):=by rw [Rat.intCast_neg,Rat.div_def,Rat.div_def,Rat.neg_mul]
  rw [h4]
  exact ⟨by simp;grind,by grind,by rw [if_pos (by grind)];grind⟩
theorem wB {b p:Nat} {lo hi e:Int} {d:Nat} (neg:Bool) (n m:Nat) (N D:Int) (hb:2≤b) (hp:1≤p) (hn:0<n) (hm:0<m) (he:0≤e∧N=n∧D=m*((b^e.toNat:Nat):Int)∨e<0∧N=n*((b^(-e).toNat:Nat):Int)∧D=m)
  (h1:lo≤e) (h2:N/D<((b^p:Nat):Int)) (h3:e=lo∨((b^(p-1):Nat):Int)≤N/D) (q:Rat) (hq:q=Rat.divInt (if neg then -(n:Int) else n) (m:Int)) (x:Fl)
  (hx:res b p hi d neg (N/D+if goI d neg (decide (N/D%2=1)) (N%D) D then 1 else 0) e=x):rd b p lo hi d q=x:=by
 subst hq
 obtain ⟨g1,g2,g3⟩:=UC (neg:=neg) hn hm
 have ZV:(0:Int)<(m:Int):=by omega
 have key:(((n:Int):Rat)/((m:Int):Rat))*bp b (-e)=(N:Rat)/(D:Rat)∧0<D:=by
  rcases he with ⟨e1,rfl,rfl⟩ | ⟨e1,rfl,rfl⟩
  · exact BQ hb ZV rfl e1
  · exact ⟨BR rfl e1,ZV⟩
 have hdg:=Bg key.2 key.1
 rw [yZ hb hp g2 (e:=e) (by rw [g3];exact ⟨h1,by rw [hdg];exact h2,by rw [hdg];exact h3⟩),g3,show decide (Rat.divInt (if neg then -(n:Int) else n) (m:Int)<0)=neg by cases neg with | true=>exact decide_eq_true (g1.2 rfl) | false=>exact decide_eq_false fun h=>nomatch g1.1 h]
 unfold lY
 rw [hdg,Yy key.2 key.1]
 exact hx
theorem kC (w:World) (n9 m9:Int) (h1 : -9223372036854775808≤n9∧n9≤9223372036854775807) (h2 : -9223372036854775808≤m9∧m9≤9223372036854775807) (hm:m9≠0) :
  Calls Tryz.prog 41 #[.int .i64 n9,.int .i64 m9] w fun e w'=>∃ u,e = .returned u∧Qn w' u (Rat.divInt n9 m9) 2 2∧Pl.Ex w w':=by
 refine Rf.aA (n:=16) [vI n9,vI m9] [] [] Tryz.func41 rfl (by kernel_rfl) rfl rfl trivial ?_
 refine Rf.bu aa 1 0 rfl ?_
 refine Rf.aC 0 _ _ rfl (Pl.en Tryz.func60) (fun α γ w h=>gz 0 (abe _ n9 (by omega) (by omega))) ?_
 refine Rf.ay aa 1 rfl ?_
 refine Rf.aC 1 _ _ rfl (Pl.en Tryz.func60) (fun α γ w h=>gz 1 (abe _ m9 (by omega) (by omega))) ?_
 refine Rf.aC 2 (pI (Rat.divInt n9 m9) 2 2) (.t [.a [.c 2 0,.c 2 1,.c 2 2],vI 0]) rfl (Pl.en Tryz.func59) (fun α γ w h=>nJ 2 (kK _ _ _ n9 m9 (h.r 0 rfl) (h.r 1 rfl) 2 2 (Sz.i64 (by omega) (by omega)) (Sz.i64 (by omega) (by omega)) (by omega) (by omega) hm)) ?_
 refine Rf.HY aa 1 1 rfl ?_
 exact Rf.aI aa (fun _ _ h=>h) rfl rfl (fun α γ w h=>⟨_,rfl,Qn.le (h.r 2 rfl) (by decide) (by decide),h.ex⟩)
theorem gZ (w:World) (n9:Bool) (m9:Nat) (e9:Int) (h1:0<m9) (h2:m9<4294967296) :
  Calls Tryz.prog 42 #[.bool n9,.int .u32 ((m9:Nat):Int),.int .i64 e9] w fun e w'=>∃ u,e = .returned u∧Fv w' u (.fin n9 (m9:Int) e9)∧Pl.Ex w w':=by
 refine Rf.aA (n:=12) [vB n9,.v (.int .u32 ((m9:Nat):Int)),vI e9] [] [] Tryz.func42 rfl (by kernel_rfl) rfl rfl trivial ?_
 refine Rf.bu aa 1 0 rfl ?_
 refine Rf.mH (e := 57) (m:=1) [.int .u32 ((m9:Nat):Int)] 0 (dW m9) rfl rfl rfl (fun _ _=>rfl) (fun α γ X=>by kernel_rfl) rfl (fun N w k=>Un.one (x:=m9) k rfl (by omega)) ?_
 refine Rf.ay aa 1 rfl ?_
 refine Rf.nQ (.a [vI 1,vB n9,.c 0 0,vI e9]) rfl rfl rfl (fun _ _=>rfl) (fun α γ hp X=>Rf.NJ rfl rfl (Rf.P8 1 e9 n9 (γ 0 0) (hp 0 0)) X) ?_
 refine Rf.HY aa 0 1 rfl ?_
 exact Rf.aI aa (fun _ _ h=>h) rfl rfl (fun α γ w h=>⟨_,rfl,Fv.mk (x:=.fin n9 (m9:Int) e9) (h.r 0 rfl),h.ex⟩)
end Go.Proofs.YtgcieamfidoaoaaGreatDoor
