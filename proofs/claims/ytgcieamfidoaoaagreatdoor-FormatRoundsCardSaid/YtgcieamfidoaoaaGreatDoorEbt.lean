/- Next and Prev. -/
import Derived.Test.YtgcieamfidoaoaaGreatDoorEbc
import Derived.Test.YtgcieamfidoaoaaGreatDoorEbs
set_option linter.all false
set_option maxHeartbeats 8000000
namespace Go.Proofs.YtgcieamfidoaoaaGreatDoor
open Go.RowKit Rf Fm
set_option maxRecDepth 100000
theorem Ca (w:World) (vv:Value) (x:Fl) (hv:Fv w vv x) (b p:Nat) (lo hi:Int) (hf:fT b p lo hi) (N1 N2 N3:Nat) (t9:Bool) (h1:Pl.Cb w N1 62 [.func (.func 101) #[] #[.pointer (some ⟨N3,0,none⟩)]]) (h2:Pl.Cb w N2 23 [.int .i64 ((b:Nat):Int),.int .i64 ((p:Nat):Int),.int .i64 lo,.int .i64 hi]) (h3:Pl.Cb w N3 4 [.bool t9]) (hx:bO b p lo hi x) :
  Calls Tryz.prog 102 #[vv,.pointer (some ⟨N1,0,none⟩),.pointer (some ⟨N2,0,none⟩)] w fun e w'=>∃ u,e = .returned u∧Fv w' u (tF t9 (fE b p lo hi (tF t9 x)))∧Pl.Ex w w':=by
 have hk:=aba t9 hx
 cases hy:tF t9 x with
 | zero n=>rw [hy] at hk;exact Yp w vv x hv b p lo hi hf N1 N2 N3 t9 h1 h2 h3 n hy hk
 | fin n m e0 =>
  rw [hy] at hk
  cases n
  · exact Uy w vv x hv b p lo hi hf N1 N2 N3 t9 h1 h2 h3 m e0 hy hk
  · exact Ux w vv x hv b p lo hi hf N1 N2 N3 t9 h1 h2 h3 m e0 hy hk
 | inf n =>
  rw [hy] at hk
  cases n
  · exact Uw w vv x hv b p lo hi hf N1 N2 N3 t9 h1 h2 h3 hy hk
  · exact Uv w vv x hv b p lo hi hf N1 N2 N3 t9 h1 h2 h3 hy hk
def Yq (b p:Nat) (lo hi:Int) (t9:Bool):Rf.Spec where
 P X w f:=∃ N1 N2 N3,f 0 = .pointer (some ⟨N1,0,none⟩)∧f 1 = .pointer (some ⟨N2,0,none⟩)∧¬ X N1∧¬ X N2∧¬ X N3∧Pl.Cb w N1 62 [.func (.func 101) #[] #[.pointer (some ⟨N3,0,none⟩)]]∧Pl.Cb w N2 23 [.int .i64 ((b:Nat):Int),.int .i64 ((p:Nat):Int),.int .i64 lo,.int .i64 hi]∧Pl.Cb w N3 4 [.bool t9]
 keep:=fun ⟨N1,N2,N3,a,b,c1,c2,c3,d1,d2,d3⟩ _ hk _ _=>⟨N1,N2,N3,a,b,c1,c2,c3,(hk N1 (Pl.Cb.lt d1) c1).trans d1,(hk N2 (Pl.Cb.lt d2) c2).trans d2,(hk N3 (Pl.Cb.lt d3) c3).trans d3⟩
 grow:=fun ⟨N1,N2,N3,a,b,c1,c2,c3,d1,d2,d3⟩ hY _=>⟨N1,N2,N3,a,b,fun h=>(hY N1 h).elim c1 (fun h9=>by have:=Pl.Cb.lt d1;omega),fun h=>(hY N2 h).elim c2 (fun h9=>by have:=Pl.Cb.lt d2;omega),fun h=>(hY N3 h).elim c3 (fun h9=>by have:=Pl.Cb.lt d3;omega),d1,d2,d3⟩
theorem xG (w:World) (b p:Nat) (lo hi:Int) (t9:Bool) :
  Calls Tryz.prog 58 #[.agg #[.int .i64 ((b:Nat):Int),.int .i64 ((p:Nat):Int),.int .i64 lo,.int .i64 hi],.bool t9] w fun e w'=>∃ N1 N2 N3,e = .returned (.func (.func 102) #[] #[.pointer (some ⟨N1,0,none⟩),.pointer (some ⟨N2,0,none⟩)])∧Pl.Cb w' N1 62 [.func (.func 101) #[] #[.pointer (some ⟨N3,0,none⟩)]]∧Pl.Cb w' N2 23 [.int .i64 ((b:Nat):Int),.int .i64 ((p:Nat):Int),.int .i64 lo,.int .i64 hi]∧Pl.Cb w' N3 4 [.bool t9]∧w.heap.size≤N1∧w.heap.size≤N2∧w.heap.size≤N3∧Pl.Ex w w':=by
 refine Rf.aA (n:=8) [.a [vI ((b:Nat):Int),vI ((p:Nat):Int),vI lo,vI hi],vB t9] [] [] Tryz.func58 rfl (by kernel_rfl) rfl rfl trivial ?_
 refine Rf.bu aa 1 0 rfl ?_
 refine Rf.Ww rfl rfl rfl rfl rfl ?_
 refine Rf.bY aa 0 2 rfl ?_
 refine Rf.Ww rfl rfl rfl rfl rfl ?_
 refine Rf.HY aa 0 3 rfl ?_
 exact Rf.aaa aa rfl (fun α γ w h=>⟨α 2,α 0,α 1,rfl,(h.box 2 _ _ rfl).1,(h.box 0 _ _ rfl).1,(h.box 1 _ _ rfl).1,(h.box 2 _ _ rfl).2.1,(h.box 0 _ _ rfl).2.1,(h.box 1 _ _ rfl).2.1,h.ex⟩)
theorem abb {f:FuncId} {args:Array Value} {w:World} {α:Rf.Env} {γ:Rf.kR} {b p:Nat} {lo hi:Int} {t9:Bool} (g:Nat) (h:Calls Tryz.prog f args w fun e w'=>∃ N1 N2 N3,e = .returned (.func (.func 102) #[] #[.pointer (some ⟨N1,0,none⟩),.pointer (some ⟨N2,0,none⟩)])∧Pl.Cb w' N1 62 [.func (.func 101) #[] #[.pointer (some ⟨N3,0,none⟩)]]∧Pl.Cb w' N2 23 [.int .i64 ((b:Nat):Int),.int .i64 ((p:Nat):Int),.int .i64 lo,.int .i64 hi]∧Pl.Cb w' N3 4 [.bool t9]∧w.heap.size≤N1∧w.heap.size≤N2∧w.heap.size≤N3∧Pl.Ex w w') :
  Calls Tryz.prog f args w (fun e w'=>∃ F,(∀ k,Rf.bG (F k)=true)∧e = .returned (Rf.den α (Rf.upd γ g F) (.f 102 [] [.c g 0,.c g 1]))∧(∀ X:Nat→Prop,(∀ k,X k→k<w.heap.size∧Rf.Ei w k)→(Yq b p lo hi t9).P X w' F)∧Pl.Ex w w'):=Calls.mono h fun e w' ⟨N1,N2,N3,he,d1,d2,d3,s1,s2,s3,hE⟩=>by
 subst he
 refine ⟨Rf.wo [.pointer (some ⟨N1,0,none⟩),.pointer (some ⟨N2,0,none⟩)],Rf.eG rfl,?_,fun X hX=>⟨N1,N2,N3,rfl,rfl,fun h=>by have:=(hX _ h).1;omega,fun h=>by have:=(hX _ h).1;omega,fun h=>by have:=(hX _ h).1;omega,d1,d2,d3⟩,hE⟩
 simp only [Rf.den,Rf.bZ,Rf.upd_same];rfl
theorem jf (w:World) (va:Value) (x:Fl) (ha:Fv w va x) (b p:Nat) (lo hi:Int) (hf:fT b p lo hi) (hx:bO b p lo hi x) :
  Calls Tryz.prog 22 #[.agg #[.int .i64 ((b:Nat):Int),.int .i64 ((p:Nat):Int),.int .i64 lo,.int .i64 hi],va] w fun e w'=>∃ u,e = .returned u∧Fv w' u (fE b p lo hi x)∧Pl.Ex w w':=by
 obtain ⟨Aa,ca,rfl,ua⟩:=ha
 refine Rf.aA (n:=9) [.a [vI ((b:Nat):Int),vI ((p:Nat):Int),vI lo,vI hi],.a [vI (kd x),vB (ng x),.c 0 0,vI (xp x)]] [[.slice Aa (limbs (mn x)).length ca]] [(0,(dW (mn x)).S)] Tryz.func22 rfl (by kernel_rfl) rfl rfl ⟨RS.in ua,trivial⟩ ?_
 refine Rf.HX aa 1 0 rfl ?_
 refine Rf.aQ none fo ?_
 refine Rf.aD aa 5 3 rfl ?_
 refine Rf.xy [] 1 (Yq b p lo hi false) (.f 102 [] [.c 1 0,.c 1 1]) (.inr ⟨rfl,rfl,rfl⟩) rfl rfl rfl rfl rfl rfl rfl rfl (Pl.en Tryz.func58) (fun α γ w h=>Rf.uJ (abb 1 (xG _ b p lo hi false))) ?_
 refine Rf.aD aa 5 3 rfl ?_
 refine Rf.xy [1,0] 2 (Rf.dW (mn (fE b p lo hi x))).S (.a [vI (kd (fE b p lo hi x)),vB (ng (fE b p lo hi x)),.c 2 0,vI (xp (fE b p lo hi x))]) (.inl rfl) rfl rfl rfl rfl rfl rfl rfl rfl (Pl.en Tryz.func102) (fun α γ w h=>Rf.toS (by obtain ⟨N1,N2,N3,e1,e2,-,-,-,k1,k2,k3⟩:=h.fact 1 _ rfl;show Calls _ _ #[.agg #[.int .i64 (kd x),.bool (ng x),γ 0 0,.int .i64 (xp x)],γ 1 0,γ 1 1] _ _;rw [e1,e2];exact Rf.fC 2 (Ca w _ x (Fv.mk (h.r 0 rfl)) b p lo hi hf N1 N2 N3 false k1 k2 k3 hx))) ?_
 refine Rf.aD aa 5 3 rfl ?_
 refine Rf.aW (by kernel_rfl) ?_
 refine Rf.aP [4] [2] [2] rfl ?_
 exact Rf.aaa aa rfl (fun α γ w h=>⟨_,rfl,Fv.mk (x:=fE b p lo hi x) (h.r 2 rfl),h.ex⟩)
theorem jF (w:World) (va:Value) (x:Fl) (ha:Fv w va x) (b p:Nat) (lo hi:Int) (hf:fT b p lo hi) (hx:bO b p lo hi x) :
  Calls Tryz.prog 24 #[.agg #[.int .i64 ((b:Nat):Int),.int .i64 ((p:Nat):Int),.int .i64 lo,.int .i64 hi],va] w fun e w'=>∃ u,e = .returned u∧Fv w' u (fV b p lo hi x)∧Pl.Ex w w':=by
 obtain ⟨Aa,ca,rfl,ua⟩:=ha
 refine Rf.aA (n:=9) [.a [vI ((b:Nat):Int),vI ((p:Nat):Int),vI lo,vI hi],.a [vI (kd x),vB (ng x),.c 0 0,vI (xp x)]] [[.slice Aa (limbs (mn x)).length ca]] [(0,(dW (mn x)).S)] Tryz.func24 rfl (by kernel_rfl) rfl rfl ⟨RS.in ua,trivial⟩ ?_
 refine Rf.HX aa 1 0 rfl ?_
 refine Rf.aQ none fo ?_
 refine Rf.aD aa 5 3 rfl ?_
 refine Rf.xy [] 1 (Yq b p lo hi true) (.f 102 [] [.c 1 0,.c 1 1]) (.inr ⟨rfl,rfl,rfl⟩) rfl rfl rfl rfl rfl rfl rfl rfl (Pl.en Tryz.func58) (fun α γ w h=>Rf.uJ (abb 1 (xG _ b p lo hi true))) ?_
 refine Rf.aD aa 5 3 rfl ?_
 refine Rf.xy [1,0] 2 (Rf.dW (mn (fV b p lo hi x))).S (.a [vI (kd (fV b p lo hi x)),vB (ng (fV b p lo hi x)),.c 2 0,vI (xp (fV b p lo hi x))]) (.inl rfl) rfl rfl rfl rfl rfl rfl rfl rfl (Pl.en Tryz.func102) (fun α γ w h=>Rf.toS (by obtain ⟨N1,N2,N3,e1,e2,-,-,-,k1,k2,k3⟩:=h.fact 1 _ rfl;show Calls _ _ #[.agg #[.int .i64 (kd x),.bool (ng x),γ 0 0,.int .i64 (xp x)],γ 1 0,γ 1 1] _ _;rw [e1,e2];exact Rf.fC 2 (Ca w _ x (Fv.mk (h.r 0 rfl)) b p lo hi hf N1 N2 N3 true k1 k2 k3 hx))) ?_
 refine Rf.aD aa 5 3 rfl ?_
 refine Rf.aW (by kernel_rfl) ?_
 refine Rf.aP [4] [2] [2] rfl ?_
 exact Rf.aaa aa rfl (fun α γ w h=>⟨_,rfl,Fv.mk (x:=fV b p lo hi x) (h.r 2 rfl),h.ex⟩)
end Go.Proofs.YtgcieamfidoaoaaGreatDoor
