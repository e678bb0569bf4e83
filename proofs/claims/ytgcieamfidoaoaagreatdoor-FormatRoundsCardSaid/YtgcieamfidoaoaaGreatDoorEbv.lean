/- Small rationals, rounded; small rationals and floats made. -/
import Derived.Test.YtgcieamfidoaoaaGreatDoorEbc
import Derived.Test.YtgcieamfidoaoaaGreatDoorEbu
set_option linter.all false
set_option maxHeartbeats 8000000
namespace Go.Proofs.YtgcieamfidoaoaaGreatDoor
open Go.RowKit Rf Fm
set_option maxRecDepth 100000
theorem Sz.i64 {z:Int} (h1 : -9223372036854775808≤z) (h2:z≤9223372036854775807):Sz z 2:=(Sn.of (by rw [show (4294967296:Nat)^2=18446744073709551616 by decide];omega):Sn z.natAbs 2)
def goI (d:Nat) (neg odd:Bool) (r D:Int):Bool :=
 if d=0 then decide (D<2*r)||decide (2*r=D)&&odd else if d=1 then decide (D≤2*r) else if d=3 then !neg&&decide (0<r) else if d=4 then neg&&decide (0<r) else false
theorem Yy {b:Nat} {S:Rat} {e N D:Int} (hD:0<D) (hx:S*bp b (-e)=(N:Rat)/(D:Rat)) (d:Nat) (neg odd:Bool):nR d neg odd (rest b S e)=goI d neg odd (N%D) D:=by
 have h1:=Il hD hx
 have h2:=BP hD hx
 have a1:decide (1/2<rest b S e)=decide (D<2*(N%D)):=decide_eq_decide.2 ⟨fun h=>by
  rcases Int.lt_trichotomy (2*(N%D)) D with h9 | h9 | h9
  · have:=h1.1.1 h9;grind
  · have:=h1.2.1 h9;grind
  · exact h9,fun h=>by
  rcases (Rat.le_total:rest b S e≤1/2∨1/2≤rest b S e) with h9 | h9
  · by_cases h8:rest b S e=1/2
    · have:=h1.2.2 h8;omega
    · have:=h1.1.2 (by grind);omega
  · by_cases h8:rest b S e=1/2
    · have:=h1.2.2 h8;omega
    · grind⟩
 have a2:decide (rest b S e=1/2)=decide (2*(N%D)=D):=decide_eq_decide.2 h1.2.symm
 have a3:decide (1/2≤rest b S e)=decide (D≤2*(N%D)):=decide_eq_decide.2 ⟨fun h=>by
  refine Int.not_lt.1 fun h9=>?_
  have:=h1.1.1 h9;grind,fun h=>by
  refine Rat.not_lt.1 fun h9=>?_
  have:=h1.1.2 h9;omega⟩
 have a4:decide (0<rest b S e)=decide (0<N%D):=decide_eq_decide.2 h2.symm
 unfold nR goI
 rw [a1,a2,a3,a4]
theorem UC {neg:Bool} {n m:Nat} (hn:0<n) (hm:0<m):(Rat.divInt (if neg then -(n:Int) else n) (m:Int)<0↔neg=true)∧Rat.divInt (if neg then -(n:Int) else n) (m:Int)≠0∧(if Rat.divInt (if neg then -(n:Int) else n) (m:Int)<0 then -Rat.divInt (if neg then -(n:Int) else n) (m:Int) else Rat.divInt (if neg then -(n:Int) else n) (m:Int))=((n:Int):Rat)/((m:Int):Rat):=by
 have h1:(0:Rat)<((n:Int):Rat):=Rat.intCast_pos.2 (by omega)
 have h2:(0:Rat)<((m:Int):Rat):=Rat.intCast_pos.2 (by omega)
 have h3:(0:Rat)<((n:Int):Rat)/((m:Int):Rat):=by rw [Rat.div_def];exact Rat.mul_pos h1 (Rat.inv_pos.2 h2)
 rw [Rat.divInt_eq_div]
 cases neg with
 | false=>show (((n:Int):Rat)/_<0↔_)∧((n:Int):Rat)/_≠0∧(if ((n:Int):Rat)/_<0 then _ else ((n:Int):Rat)/_)=_;exact ⟨by simp;grind,by grind,by rw [if_neg (by grind)]⟩
 | true =>
  show (((-(n:Int):Int):Rat)/_<0↔_)∧((-(n:Int):Int):Rat)/_≠0∧(if ((-(n:Int):Int):Rat)/_<0 then -(((-(n:Int):Int):Rat)/_) else _)=_
  have h4:((-(n:Int):Int):Rat)/((m:Int):Rat) = -(((n:Int):Rat)/((m:Int):Rat)):=by rw [Rat.intCast_neg,Rat.div_def,Rat.div_def,Rat.neg_mul]
  rw [h4]
  exact ⟨by simp;grind,by grind,by rw [if_pos (by grind)];grind⟩
theorem wB {b p:Nat} {lo hi e:Int} {d:Nat} (neg:Bool) (n m:Nat) (N D:Int) (hb:2≤b) (hp:1≤p) (hn:0<n) (hm:0<m) (he:0≤e∧N=n∧D=m*((b^e.toNat:Nat):Int)∨e<0∧N=n*((b^(-e).toNat:Nat):Int)∧D=m)
  (h1:lo≤e) (h2:N/D<((b^p:Nat):Int)) (h3:e=lo∨((b^(p-1):Nat):Int)≤N/D) (q:Rat) (hq:q=Rat.divInt (if neg then -(n:Int) else n) (m:Int)) (x:Fl)
  (hx:res b p hi d neg (N/D+if goI d neg (decide (N/D%2=1)) (N%D) D then 1 else 0) e=x):rd b p lo hi d q=x:=by
 subst hq
 obtain ⟨g1,g2,g3⟩:=UC (neg:=neg) hn hm
 have ZV:(0:Int)<(m:Int):=by omega
 have key:(((n:Int):Rat)/((m:Int):Rat))*bp b (-e)=(N:Rat)/(D:Rat)∧0<D:=by
  rcases he with ⟨e1,rfl,rfl⟩ | ⟨e1,rfl,rfl⟩
  · exact BQ hb ZV rfl e1
  · exact ⟨BR rfl e1,ZV⟩
 have hdg:=Bg key.2 key.1
 rw [yZ hb hp g2 (e:=e) (by rw [g3];exact ⟨h1,by rw [hdg];exact h2,by rw [hdg];exact h3⟩),g3,show decide (Rat.divInt (if neg then -(n:Int) else n) (m:Int)<0)=neg by cases neg with | true=>exact decide_eq_true (g1.2 rfl) | false=>exact decide_eq_false fun h=>nomatch g1.1 h]
 unfold lY
 rw [hdg,Yy key.2 key.1]
 exact hx
theorem kC (w:World) (n9 m9:Int) (h1 : -9223372036854775808≤n9∧n9≤9223372036854775807) (h2 : -9223372036854775808≤m9∧m9≤9223372036854775807) (hm:m9≠0) :
  Calls Tryz.prog 41 #[.int .i64 n9,.int .i64 m9] w fun e w'=>∃ u,e = .returned u∧Qn w' u (Rat.divInt n9 m9) 2 2∧Pl.Ex w w':=by
 refine Rf.aA (n:=16) [vI n9,vI m9] [] [] Tryz.func41 rfl (by kernel_rfl) rfl rfl trivial ?_
 refine Rf.bu aa 1 0 rfl ?_
 refine Rf.aC 0 _ _ rfl (Pl.en Tryz.func60) (fun α γ w h=>gz 0 (abe _ n9 (by omega) (by omega))) ?_
 refine Rf.ay aa 1 rfl ?_
 refine Rf.aC 1 _ _ rfl (Pl.en Tryz.func60) (fun α γ w h=>gz 1 (abe _ m9 (by omega) (by omega))) ?_
 refine Rf.aC 2 (pI (Rat.divInt n9 m9) 2 2) (.t [.a [.c 2 0,.c 2 1,.c 2 2],vI 0]) rfl (Pl.en Tryz.func59) (fun α γ w h=>nJ 2 (kK _ _ _ n9 m9 (h.r 0 rfl) (h.r 1 rfl) 2 2 (Sz.i64 (by omega) (by omega)) (Sz.i64 (by omega) (by omega)) (by omega) (by omega) hm)) ?_
 refine Rf.HY aa 1 1 rfl ?_
 exact Rf.aaa aa rfl (fun α γ w h=>⟨_,rfl,Qn.le (h.r 2 rfl) (by decide) (by decide),h.ex⟩)
theorem gZ (w:World) (n9:Bool) (m9:Nat) (e9:Int) (h1:0<m9) (h2:m9<4294967296) :
  Calls Tryz.prog 42 #[.bool n9,.int .u32 ((m9:Nat):Int),.int .i64 e9] w fun e w'=>∃ u,e = .returned u∧Fv w' u (.fin n9 (m9:Int) e9)∧Pl.Ex w w':=by
 refine Rf.aA (n:=12) [vB n9,.v (.int .u32 ((m9:Nat):Int)),vI e9] [] [] Tryz.func42 rfl (by kernel_rfl) rfl rfl trivial ?_
 refine Rf.bu aa 1 0 rfl ?_
 refine Rf.mH (e := 57) (m:=1) [.int .u32 ((m9:Nat):Int)] 0 (dW m9) rfl rfl rfl (fun _ _=>rfl) (fun α γ X=>by kernel_rfl) rfl (fun N w k=>Un.one (x:=m9) k rfl (by omega)) ?_
 refine Rf.ay aa 1 rfl ?_
 refine Rf.nQ (.a [vI 1,vB n9,.c 0 0,vI e9]) rfl rfl rfl (fun _ _=>rfl) (fun α γ hp X=>Rf.NJ rfl rfl (Rf.P8 1 e9 n9 (γ 0 0) (hp 0 0)) X) ?_
 refine Rf.HY aa 0 1 rfl ?_
 exact Rf.aaa aa rfl (fun α γ w h=>⟨_,rfl,Fv.mk (x:=.fin n9 (m9:Int) e9) (h.r 0 rfl),h.ex⟩)
end Go.Proofs.YtgcieamfidoaoaaGreatDoor
/- The calls whose answers the document fixes. -/
namespace Go.Proofs.YtgcieamfidoaoaaGreatDoor
open Go.RowKit Rf Fm
set_option maxRecDepth 100000
theorem hf1:fT 2 3 (-2) 4:=⟨.inl rfl,by decide,by decide,by decide,by decide,by decide⟩
theorem hf2:fT 10 2 (-3) 3:=⟨.inr rfl,by decide,by decide,by decide,by decide,by decide⟩
theorem abf:rd 2 3 (-2) 4 0 (Rat.divInt 1 3)=(.fin false 1 (-2)):=wB (e:=(-2)) false 1 3 4 3 (by decide) (by decide) (by decide) (by decide) (.inr ⟨by decide,rfl,rfl⟩) (by decide) (by decide) (.inl rfl) _ rfl _ rfl
theorem abg:rd 2 3 (-2) 4 0 (Rat.divInt 9 2)=(.fin false 4 0):=wB (e:=0) false 9 2 9 2 (by decide) (by decide) (by decide) (by decide) (.inl ⟨by decide,rfl,rfl⟩) (by decide) (by decide) (.inr (by decide)) _ rfl _ rfl
theorem abh:rd 2 3 (-2) 4 1 (Rat.divInt 9 2)=(.fin false 5 0):=wB (e:=0) false 9 2 9 2 (by decide) (by decide) (by decide) (by decide) (.inl ⟨by decide,rfl,rfl⟩) (by decide) (by decide) (.inr (by decide)) _ rfl _ rfl
theorem abj:rd 2 3 (-2) 4 0 (Rat.divInt 120 1)=(.inf false):=wB (e:=4) false 120 1 120 16 (by decide) (by decide) (by decide) (by decide) (.inl ⟨by decide,rfl,rfl⟩) (by decide) (by decide) (.inr (by decide)) _ rfl _ rfl
theorem abk:rd 2 3 (-2) 4 2 (Rat.divInt 120 1)=(.fin false 7 4):=wB (e:=4) false 120 1 120 16 (by decide) (by decide) (by decide) (by decide) (.inl ⟨by decide,rfl,rfl⟩) (by decide) (by decide) (.inr (by decide)) _ rfl _ rfl
theorem abl:rd 10 2 (-3) 3 3 (Rat.divInt (-1) 3000)=(.zero true):=wB (e:=(-3)) true 1 3000 1000 3000 (by decide) (by decide) (by decide) (by decide) (.inr ⟨by decide,rfl,rfl⟩) (by decide) (by decide) (.inl rfl) _ rfl _ rfl
theorem abm:rd 10 2 (-3) 3 4 (Rat.divInt (-1) 3000)=(.fin true 1 (-3)):=wB (e:=(-3)) true 1 3000 1000 3000 (by decide) (by decide) (by decide) (by decide) (.inr ⟨by decide,rfl,rfl⟩) (by decide) (by decide) (.inl rfl) _ rfl _ rfl
theorem abn:rd 10 2 (-3) 3 4 (Rat.divInt 0 1)=(.zero false):=by rw [show Rat.divInt 0 1=0 from rfl,uM (by decide) (by decide)]
theorem abo:vf 2 (.fin true 5 (-1))=Rat.divInt (-5) 2:=(Bi (b:=2) (k:=1) (n:=true) (m:=5) (by decide) (by decide)).trans rfl
theorem QH (w:World) :
  Calls Tryz.prog 13 #[.agg #[.int .i64 2,.int .i64 0,.int .i64 0,.int .i64 0]] w fun e w'=>e = .returned (.bool false)∧Pl.Ex w w':=by
 refine Rf.aA (n:=38) [.a [vI 2,vI 0,vI 0,vI 0]] [] [] Tryz.func13 rfl (by kernel_rfl) rfl rfl trivial ?_
 refine Rf.bu aa 1 0 rfl ?_
 refine Rf.ah (v:=.bool true) (fun X=>aM (by decide) X) rfl ?_
 refine Rf.ay aa 1 rfl ?_
 refine Rf.ah (v:=.bool false) (fun X=>gJ (by decide) X) rfl ?_
 refine Rf.HY aa 0 1 rfl ?_
 exact Rf.aaa aa rfl (fun α γ w h=>⟨rfl,h.ex⟩)
theorem QI (w:World) :
  Calls Tryz.prog 13 #[.agg #[.int .i64 3,.int .i64 1,.int .i64 0,.int .i64 0]] w fun e w'=>e = .returned (.bool false)∧Pl.Ex w w':=by
 refine Rf.aA (n:=38) [.a [vI 3,vI 1,vI 0,vI 0]] [] [] Tryz.func13 rfl (by kernel_rfl) rfl rfl trivial ?_
 refine Rf.bu aa 1 0 rfl ?_
 refine Rf.ah (v:=.bool false) (fun X=>aK (by decide) X) rfl ?_
 refine Rf.ay aa 1 rfl ?_
 refine Rf.ah (v:=.bool false) (fun X=>aK (by decide) X) rfl ?_
 refine Rf.HY aa 0 1 rfl ?_
 exact Rf.aaa aa rfl (fun α γ w h=>⟨rfl,h.ex⟩)
theorem N7 (w:World) (va:Value) (q:Rat) (L M:Nat) (ha:Qn w va q L M) :
  Calls Tryz.prog 30 #[va,.agg #[.int .i64 3,.int .i64 1,.int .i64 0,.int .i64 0],.int .i64 0] w fun e w'=>e = .returned (.tuple #[.agg #[.int .i64 0,.bool false,.slice none 0 0,.int .i64 0],.int .i64 1])∧Pl.Ex w w':=by
 obtain ⟨Aa,ca,Ba,ba,rfl,ua,ta,za,ya⟩:=ha
 refine Rf.aA (n:=122) [.a [.c 0 0,.c 0 1,.c 0 2],.a [vI 3,vI 1,vI 0,vI 0],vI 0] [[.bool (decide (Rat.num q<0)),.slice Aa (limbs (Rat.num q).natAbs).length ca,.slice Ba (limbs (Rat.den q)).length ba]] [(0,(pI q L M).S)] Tryz.func30 rfl (by kernel_rfl) rfl rfl ⟨RS.in ⟨Aa,ca,Ba,ba,rfl,ua,ta,za,ya⟩,trivial⟩ ?_
 refine Rf.bu aa 1 0 rfl ?_
 refine Rf.aC 1 (TR) (.a [.v (.func (.func 111) #[] #[]),.v (.func (.func 110) #[] #[]),.v (.func (.func 112) #[] #[]),.v (.func (.func 110) #[] #[]),.v (.func (.func 113) #[] #[]),.v (.func (.func 114) #[] #[]),.v (.func (.func 115) #[] #[]),.v (.func (.func 116) #[] #[]),.v (.func (.func 117) #[] #[]),.v (.func (.func 118) #[] #[])]) rfl (Pl.en Tryz.func69) (fun α γ w h=>xE (.a [.v (.func (.func 111) #[] #[]),.v (.func (.func 110) #[] #[]),.v (.func (.func 112) #[] #[]),.v (.func (.func 110) #[] #[]),.v (.func (.func 113) #[] #[]),.v (.func (.func 114) #[] #[]),.v (.func (.func 115) #[] #[]),.v (.func (.func 116) #[] #[]),.v (.func (.func 117) #[] #[]),.v (.func (.func 118) #[] #[])]) 1 (fun _ _=>rfl) (pO _)) ?_
 refine Rf.bY aa 0 3 rfl ?_
 refine Rf.aC 2 _ _ rfl (Pl.en Tryz.func13) (fun α γ w h=>aU 2 (QI _)) ?_
 refine Rf.aV (.bool true) rfl (fun X=>aT _ X) ?_
 refine Rf.bY aa 1 4 rfl ?_
 refine Rf.gU (.a [vI 0,vF,vN,vI 0]) rfl rfl rfl (fun _ _=>rfl) (fun α γ X=>by kernel_rfl) ?_
 refine Rf.HY aa 0 4 rfl ?_
 exact Rf.aaa aa rfl (fun α γ w h=>⟨rfl,h.ex⟩)
theorem Oa (w:World) (va:Value) (q:Rat) (L M:Nat) (ha:Qn w va q L M) (b p:Nat) (lo hi:Int) (hf:fT b p lo hi) :
  Calls Tryz.prog 30 #[va,.agg #[.int .i64 ((b:Nat):Int),.int .i64 ((p:Nat):Int),.int .i64 lo,.int .i64 hi],.int .i64 5] w fun e w'=>e = .returned (.tuple #[.agg #[.int .i64 0,.bool false,.slice none 0 0,.int .i64 0],.int .i64 1])∧Pl.Ex w w':=by
 obtain ⟨Aa,ca,Ba,ba,rfl,ua,ta,za,ya⟩:=ha
 refine Rf.aA (n:=122) [.a [.c 0 0,.c 0 1,.c 0 2],.a [vI ((b:Nat):Int),vI ((p:Nat):Int),vI lo,vI hi],vI 5] [[.bool (decide (Rat.num q<0)),.slice Aa (limbs (Rat.num q).natAbs).length ca,.slice Ba (limbs (Rat.den q)).length ba]] [(0,(pI q L M).S)] Tryz.func30 rfl (by kernel_rfl) rfl rfl ⟨RS.in ⟨Aa,ca,Ba,ba,rfl,ua,ta,za,ya⟩,trivial⟩ ?_
 refine Rf.bu aa 1 0 rfl ?_
 refine Rf.aC 1 (TR) (.a [.v (.func (.func 111) #[] #[]),.v (.func (.func 110) #[] #[]),.v (.func (.func 112) #[] #[]),.v (.func (.func 110) #[] #[]),.v (.func (.func 113) #[] #[]),.v (.func (.func 114) #[] #[]),.v (.func (.func 115) #[] #[]),.v (.func (.func 116) #[] #[]),.v (.func (.func 117) #[] #[]),.v (.func (.func 118) #[] #[])]) rfl (Pl.en Tryz.func69) (fun α γ w h=>xE (.a [.v (.func (.func 111) #[] #[]),.v (.func (.func 110) #[] #[]),.v (.func (.func 112) #[] #[]),.v (.func (.func 110) #[] #[]),.v (.func (.func 113) #[] #[]),.v (.func (.func 114) #[] #[]),.v (.func (.func 115) #[] #[]),.v (.func (.func 116) #[] #[]),.v (.func (.func 117) #[] #[]),.v (.func (.func 118) #[] #[])]) 1 (fun _ _=>rfl) (pO _)) ?_
 refine Rf.bY aa 0 3 rfl ?_
 refine Rf.aC 2 _ _ rfl (Pl.en Tryz.func13) (fun α γ w h=>aU 2 (ig _ b p lo hi hf)) ?_
 refine Rf.aV (.bool false) rfl (fun X=>aT _ X) ?_
 refine Rf.ay aa 4 rfl ?_
 refine Rf.ah (v:=.bool false) (fun X=>bM (by decide) X) rfl ?_
 refine Rf.ay aa 4 rfl ?_
 refine Rf.ah (v:=.bool true) (fun X=>bS (by decide) X) rfl ?_
 refine Rf.bY aa 1 4 rfl ?_
 refine Rf.gU (.a [vI 0,vF,vN,vI 0]) rfl rfl rfl (fun _ _=>rfl) (fun α γ X=>by kernel_rfl) ?_
 refine Rf.HY aa 0 4 rfl ?_
 exact Rf.aaa aa rfl (fun α γ w h=>⟨rfl,h.ex⟩)
theorem Ke (w:World) (va:Value) (n9:Bool) (m e0:Int) (ha:Fv w va (.fin n9 m e0)) (b p:Nat) (lo hi:Int) (hf:fT b p lo hi) (hs0:Sn (Int.natAbs m) 38) (h1:lo≤e0) (h2:e0≤hi) (h3:0<m) (h4:¬ m<((b^p:Nat):Int)) :
  Calls Tryz.prog 18 #[.agg #[.int .i64 ((b:Nat):Int),.int .i64 ((p:Nat):Int),.int .i64 lo,.int .i64 hi],va] w fun e w'=>e = .returned (.tuple #[.agg #[.bool false,.slice none 0 0,.slice none 0 0],.bool false])∧Pl.Ex w w':=by
 obtain ⟨Aa,ca,rfl,ua⟩:=ha
 refine Rf.aA (n:=47) [.a [vI ((b:Nat):Int),vI ((p:Nat):Int),vI lo,vI hi],.a [vI 1,vB n9,.c 0 0,vI e0]] [[.slice Aa (limbs (Int.natAbs m)).length ca]] [(0,(dW (Int.natAbs m)).S)] Tryz.func18 rfl (by kernel_rfl) rfl rfl ⟨RS.in ua,trivial⟩ ?_
 refine Rf.bu aa 1 0 rfl ?_
 refine Rf.aC 1 _ _ rfl (Pl.en Tryz.func15) (fun α γ w h=>aU 1 (Qy _ _ n9 m e0 (Fv.mk (x:=(.fin n9 m e0)) (h.r 0 rfl)) b p lo hi hf hs0 h1 h2 h3 h4)) ?_
 refine Rf.aV (.bool true) rfl (fun X=>aT _ X) ?_
 refine Rf.bY aa 1 3 rfl ?_
 refine Rf.gU (.a [vF,vN,vN]) rfl rfl rfl (fun _ _=>rfl) (fun α γ X=>by kernel_rfl) ?_
 refine Rf.HY aa 0 3 rfl ?_
 exact Rf.aaa aa rfl (fun α γ w h=>⟨rfl,h.ex⟩)
theorem iO (w:World) :
  Calls Tryz.prog 12 #[] w fun e w'=>e = .returned (.bool true)∧Pl.Ex w w':=by
 refine Rf.aA (n:=250) [] [] [] Tryz.func12 rfl (by kernel_rfl) rfl rfl trivial ?_
 refine Rf.bu aa 1 0 rfl ?_
 refine Rf.gU (.a [vI 2,vI 3,vI (-2),vI 4]) rfl rfl rfl (fun _ _=>rfl) (fun α γ X=>by kernel_rfl) ?_
 refine Rf.gU (.a [vI 10,vI 2,vI (-3),vI 3]) rfl rfl rfl (fun _ _=>rfl) (fun α γ X=>by kernel_rfl) ?_
 refine Rf.HY aa 0 0 rfl ?_
 refine Rf.aQ none fo ?_
 refine Rf.ak 0 _ _ rfl (Pl.en Tryz.func41) (fun α γ w h=>iP 0 (kC _ 1 3 (by decide) (by decide) (by decide))) ?_
 refine Rf.aD aa 9 2 rfl ?_
 refine Rf.ak 1 (dW (mn (.fin false 1 (-2)))) (.t [.a [vI 1,vF,.c 1 0,vI (-2)],vI 0]) rfl (Pl.en Tryz.func30) (fun α γ w h=>dP 1 (by have h9:=aR _ _ (Rat.divInt 1 3) (Qn.le (h.r 0 rfl) (by decide) (by decide)) 2 3 (-2) 4 hf1 0 (by decide);rw [abf] at h9;exact h9)) ?_
 refine Rf.aD aa 9 2 rfl ?_
 refine Rf.aW (by kernel_rfl) ?_
 refine Rf.aP [0,1,2,3,4] [0,1,2] [1] rfl ?_
 refine Rf.iB none fo rfl ?_
 refine Rf.ak 2 _ _ rfl (Pl.en Tryz.func41) (fun α γ w h=>iP 2 (kC _ 9 2 (by decide) (by decide) (by decide))) ?_
 refine Rf.aD aa 9 3 rfl ?_
 refine Rf.ak 3 (dW (mn (.fin false 4 0))) (.t [.a [vI 1,vF,.c 3 0,vI 0],vI 0]) rfl (Pl.en Tryz.func30) (fun α γ w h=>dP 3 (by have h9:=aR _ _ (Rat.divInt 9 2) (Qn.le (h.r 2 rfl) (by decide) (by decide)) 2 3 (-2) 4 hf1 0 (by decide);rw [abg] at h9;exact h9)) ?_
 refine Rf.aD aa 9 3 rfl ?_
 refine Rf.aW (by kernel_rfl) ?_
 refine Rf.aP [0,1,2,3,4,5] [0,1,2,3] [1,3] rfl ?_
 refine Rf.iB none fo rfl ?_
 refine Rf.ak 4 _ _ rfl (Pl.en Tryz.func41) (fun α γ w h=>iP 4 (kC _ 9 2 (by decide) (by decide) (by decide))) ?_
 refine Rf.aD aa 9 4 rfl ?_
 refine Rf.ak 5 (dW (mn (.fin false 5 0))) (.t [.a [vI 1,vF,.c 5 0,vI 0],vI 0]) rfl (Pl.en Tryz.func30) (fun α γ w h=>dP 5 (by have h9:=aR _ _ (Rat.divInt 9 2) (Qn.le (h.r 4 rfl) (by decide) (by decide)) 2 3 (-2) 4 hf1 1 (by decide);rw [abh] at h9;exact h9)) ?_
 refine Rf.aD aa 9 4 rfl ?_
 refine Rf.aW (by kernel_rfl) ?_
 refine Rf.aP [0,1,2,3,4,5,7] [0,1,2,3,4] [1,3,5] rfl ?_
 refine Rf.iB none fo rfl ?_
 refine Rf.ak 6 _ _ rfl (Pl.en Tryz.func41) (fun α γ w h=>iP 6 (kC _ 120 1 (by decide) (by decide) (by decide))) ?_
 refine Rf.aD aa 9 5 rfl ?_
 refine Rf.ak 7 (dW (mn (.inf false))) (.t [.a [vI 2,vF,.c 7 0,vI 0],vI 0]) rfl (Pl.en Tryz.func30) (fun α γ w h=>dP 7 (by have h9:=aR _ _ (Rat.divInt 120 1) (Qn.le (h.r 6 rfl) (by decide) (by decide)) 2 3 (-2) 4 hf1 0 (by decide);rw [abj] at h9;exact h9)) ?_
 refine Rf.aD aa 9 5 rfl ?_
 refine Rf.aW (by kernel_rfl) ?_
 refine Rf.aP [0,1,2,3,4,5,7,9] [0,1,2,3,4,5] [1,3,5,7] rfl ?_
 refine Rf.iB none fo rfl ?_
 refine Rf.ak 8 _ _ rfl (Pl.en Tryz.func41) (fun α γ w h=>iP 8 (kC _ 120 1 (by decide) (by decide) (by decide))) ?_
 refine Rf.aD aa 9 6 rfl ?_
 refine Rf.ak 9 (dW (mn (.fin false 7 4))) (.t [.a [vI 1,vF,.c 9 0,vI 4],vI 0]) rfl (Pl.en Tryz.func30) (fun α γ w h=>dP 9 (by have h9:=aR _ _ (Rat.divInt 120 1) (Qn.le (h.r 8 rfl) (by decide) (by decide)) 2 3 (-2) 4 hf1 2 (by decide);rw [abk] at h9;exact h9)) ?_
 refine Rf.aD aa 9 6 rfl ?_
 refine Rf.aW (by kernel_rfl) ?_
 refine Rf.aP [0,1,2,3,4,5,7,9,11] [0,1,2,3,4,5,6] [1,3,5,7,9] rfl ?_
 refine Rf.iB none fo rfl ?_
 refine Rf.ak 10 _ _ rfl (Pl.en Tryz.func41) (fun α γ w h=>iP 10 (kC _ (-1) 3000 (by decide) (by decide) (by decide))) ?_
 refine Rf.aD aa 9 7 rfl ?_
 refine Rf.ak 11 (dW (mn (.zero true))) (.t [.a [vI 0,vT,.c 11 0,vI 0],vI 0]) rfl (Pl.en Tryz.func30) (fun α γ w h=>dP 11 (by have h9:=aR _ _ (Rat.divInt (-1) 3000) (Qn.le (h.r 10 rfl) (by decide) (by decide)) 10 2 (-3) 3 hf2 3 (by decide);rw [abl] at h9;exact h9)) ?_
 refine Rf.aD aa 9 7 rfl ?_
 refine Rf.aW (by kernel_rfl) ?_
 refine Rf.aP [0,1,2,3,4,5,7,9,11,13] [0,1,2,3,4,5,6,7] [1,3,5,7,9,11] rfl ?_
 refine Rf.iB none fo rfl ?_
 refine Rf.ak 12 _ _ rfl (Pl.en Tryz.func41) (fun α γ w h=>iP 12 (kC _ (-1) 3000 (by decide) (by decide) (by decide))) ?_
 refine Rf.aD aa 9 8 rfl ?_
 refine Rf.ak 13 (dW (mn (.fin true 1 (-3)))) (.t [.a [vI 1,vT,.c 13 0,vI (-3)],vI 0]) rfl (Pl.en Tryz.func30) (fun α γ w h=>dP 13 (by have h9:=aR _ _ (Rat.divInt (-1) 3000) (Qn.le (h.r 12 rfl) (by decide) (by decide)) 10 2 (-3) 3 hf2 4 (by decide);rw [abm] at h9;exact h9)) ?_
 refine Rf.aD aa 9 8 rfl ?_
 refine Rf.aW (by kernel_rfl) ?_
 refine Rf.aP [0,1,2,3,4,5,7,9,11,13,15] [0,1,2,3,4,5,6,7,8] [1,3,5,7,9,11,13] rfl ?_
 refine Rf.iB none fo rfl ?_
 refine Rf.ak 14 _ _ rfl (Pl.en Tryz.func41) (fun α γ w h=>iP 14 (kC _ 0 1 (by decide) (by decide) (by decide))) ?_
 refine Rf.aD aa 9 9 rfl ?_
 refine Rf.ak 15 (dW (mn (.zero false))) (.t [.a [vI 0,vF,.c 15 0,vI 0],vI 0]) rfl (Pl.en Tryz.func30) (fun α γ w h=>dP 15 (by have h9:=aR _ _ (Rat.divInt 0 1) (Qn.le (h.r 14 rfl) (by decide) (by decide)) 10 2 (-3) 3 hf2 4 (by decide);rw [abn] at h9;exact h9)) ?_
 refine Rf.aD aa 9 9 rfl ?_
 refine Rf.aW (by kernel_rfl) ?_
 refine Rf.aP [0,1,3,4,5,7,9,11,13,15,17] [0,2,3,4,5,6,7,8,9] [1,3,5,7,9,11,13,15] rfl ?_
 refine Rf.iB none fo rfl ?_
 refine Rf.ak 16 _ _ rfl (Pl.en Tryz.func41) (fun α γ w h=>iP 16 (kC _ 1 3 (by decide) (by decide) (by decide))) ?_
 refine Rf.aD aa 9 10 rfl ?_
 refine Rf.ak 17 (TR) (.t [.a [vI 0,vF,vN,vI 0],vI 1]) rfl (Pl.en Tryz.func30) (fun α γ w h=>xE (.t [.a [vI 0,vF,vN,vI 0],vI 1]) 17 (fun _ _=>rfl) (Oa _ _ _ _ _ (h.r 16 rfl) 2 3 (-2) 4 hf1)) ?_
 refine Rf.aD aa 9 10 rfl ?_
 refine Rf.aW (by kernel_rfl) ?_
 refine Rf.aP [0,1,3,4,5,7,9,11,13,15,17,20] [0,2,3,4,5,6,7,8,9] [1,3,5,7,9,11,13,15] rfl ?_
 refine Rf.bu aa 0 0 rfl ?_
 refine Rf.aC 18 _ _ rfl (Pl.en Tryz.func41) (fun α γ w h=>iP 18 (kC _ 1 3 (by decide) (by decide) (by decide))) ?_
 refine Rf.gU (.a [vI 3,vI 1,vI 0,vI 0]) rfl rfl rfl (fun _ _=>rfl) (fun α γ X=>by kernel_rfl) ?_
 refine Rf.aC 19 (TR) (.t [.a [vI 0,vF,vN,vI 0],vI 1]) rfl (Pl.en Tryz.func30) (fun α γ w h=>xE (.t [.a [vI 0,vF,vN,vI 0],vI 1]) 19 (fun _ _=>rfl) (N7 _ _ _ _ _ (h.r 18 rfl))) ?_
 refine Rf.HY aa 0 11 rfl ?_
 refine Rf.aQ none fo ?_
 refine Rf.aD aa 9 12 rfl ?_
 refine Rf.ak 20 _ (.a [vI 1,vT,.c 20 0,vI (-1)]) rfl (Pl.en Tryz.func42) (fun α γ w h=>fC 20 (gZ _ true 5 (-1) (by decide) (by decide))) ?_
 refine Rf.ak 21 (pI (vf 2 (.fin true 5 (-1))) 41 70) (.t [.a [.c 21 0,.c 21 1,.c 21 2],vT]) rfl (Pl.en Tryz.func18) (fun α γ w h=>nJ 21 (gL _ _ (.fin true 5 (-1)) (Fv.mk (x:=(.fin true 5 (-1))) (h.r 20 rfl)) 2 3 (-2) 4 hf1 (show bO 2 3 (-2) 4 (.fin true 5 (-1)) from ⟨⟨by decide,by decide,by decide,by decide⟩,by decide⟩) (fun _ h=>nomatch h))) ?_
 refine Rf.aD aa 9 12 rfl ?_
 refine Rf.aW (by kernel_rfl) ?_
 refine Rf.aP [0,1,3,4,5,7,9,11,13,15,17,20,22,23,24] [0,2,3,4,5,6,7,8,9,12] [1,3,5,7,9,11,13,15,21] rfl ?_
 refine Rf.bu aa 0 13 rfl ?_
 refine Rf.gU (.a [vI 2,vF,vN,vI 0]) rfl rfl rfl (fun _ _=>rfl) (fun α γ X=>by kernel_rfl) ?_
 refine Rf.aC 22 (TR) (.t [.a [vF,vN,vN],vF]) rfl (Pl.en Tryz.func18) (fun α γ w h=>xE (.t [.a [vF,vN,vN],vF]) 22 (fun _ _=>rfl) (QD _ _ false (Fv.mk (w:=w) (s:=.slice none 0 0) (x:=(.inf false)) (iA _)) 2 3 (-2) 4 hf1)) ?_
 refine Rf.HY aa 0 13 rfl ?_
 refine Rf.aQ none fo ?_
 refine Rf.aD aa 9 14 rfl ?_
 refine Rf.ak 23 _ (.a [vI 1,vF,.c 23 0,vI 0]) rfl (Pl.en Tryz.func42) (fun α γ w h=>fC 23 (gZ _ false 8 0 (by decide) (by decide))) ?_
 refine Rf.ak 24 (TR) (.t [.a [vF,vN,vN],vF]) rfl (Pl.en Tryz.func18) (fun α γ w h=>xE (.t [.a [vF,vN,vN],vF]) 24 (fun _ _=>rfl) (Ke _ _ false 8 0 (Fv.mk (x:=(.fin false 8 0)) (h.r 23 rfl)) 2 3 (-2) 4 hf1 (Sn.of (by decide)) (by decide) (by decide) (by decide) (by decide))) ?_
 refine Rf.aD aa 9 14 rfl ?_
 refine Rf.aW (by kernel_rfl) ?_
 refine Rf.aP [0,1,3,4,5,7,9,11,13,15,17,20,22,23,24,26,28] [0,2,3,4,5,6,7,8,9,12] [1,3,5,7,9,11,13,15,21] rfl ?_
 refine Rf.bu aa 0 15 rfl ?_
 refine Rf.aV (.bool false) rfl (fun X=>aT _ X) ?_
 refine Rf.bY aa 2 15 rfl ?_
 refine Rf.gU (.a [vI 2,vF,vN,vI 0]) rfl rfl rfl (fun _ _=>rfl) (fun α γ X=>by kernel_rfl) ?_
 refine Rf.HY aa 0 15 rfl ?_
 refine Rf.aQ none fo ?_
 refine Rf.aD aa 132 16 rfl ?_
 refine Rf.ak 25 _ _ rfl (Pl.en Tryz.func13) (fun α γ w h=>aU 25 (ig _ 2 3 (-2) 4 hf1)) ?_
 refine Rf.aD aa 132 16 rfl ?_
 refine Rf.Fb (.a [vI 2,vI 0,vI 0,vI 0]) [] rfl rfl rfl rfl rfl (fun _ _=>rfl) (fun α γ X=>by kernel_rfl) ?_
 refine Rf.ak 26 _ _ rfl (Pl.en Tryz.func13) (fun α γ w h=>aU 26 (QH _)) ?_
 refine Rf.wz (.bool true) rfl rfl rfl rfl rfl rfl rfl (fun X=>aT _ X) ?_
 refine Rf.aD aa 132 16 rfl ?_
 refine Rf.ak 27 _ (.a [vI 1,vF,.c 27 0,vI (-2)]) rfl (Pl.en Tryz.func42) (fun α γ w h=>fC 27 (gZ _ false 1 (-2) (by decide) (by decide))) ?_
 refine Rf.ak 28 _ _ rfl (Pl.en Tryz.func21) (fun α γ w h=>aU 28 (bH _ _ _ (.fin false 1 (-2)) (.fin false 1 (-2)) (Fv.mk (x:=(.fin false 1 (-2))) (h.r 1 rfl)) (Fv.mk (x:=(.fin false 1 (-2))) (h.r 27 rfl)) rfl)) ?_
 refine Rf.aD aa 132 16 rfl ?_
 refine Rf.dL (vT) rfl (fun α γ w h=>(fun X=>aM (by decide) X) w) ?_
 refine Rf.aD aa 132 16 rfl ?_
 refine Rf.ak 29 _ (.a [vI 1,vF,.c 29 0,vI 0]) rfl (Pl.en Tryz.func42) (fun α γ w h=>fC 29 (gZ _ false 4 0 (by decide) (by decide))) ?_
 refine Rf.ak 30 _ _ rfl (Pl.en Tryz.func21) (fun α γ w h=>aU 30 (bH _ _ _ (.fin false 4 0) (.fin false 4 0) (Fv.mk (x:=(.fin false 4 0)) (h.r 3 rfl)) (Fv.mk (x:=(.fin false 4 0)) (h.r 29 rfl)) rfl)) ?_
 refine Rf.aD aa 132 16 rfl ?_
 refine Rf.ak 31 _ (.a [vI 1,vF,.c 31 0,vI 0]) rfl (Pl.en Tryz.func42) (fun α γ w h=>fC 31 (gZ _ false 5 0 (by decide) (by decide))) ?_
 refine Rf.ak 32 _ _ rfl (Pl.en Tryz.func21) (fun α γ w h=>aU 32 (bH _ _ _ (.fin false 5 0) (.fin false 5 0) (Fv.mk (x:=(.fin false 5 0)) (h.r 5 rfl)) (Fv.mk (x:=(.fin false 5 0)) (h.r 31 rfl)) rfl)) ?_
 refine Rf.aD aa 132 16 rfl ?_
 refine Rf.ak 33 _ _ rfl (Pl.en Tryz.func21) (fun α γ w h=>aU 33 (bH _ _ _ (.inf false) (.inf false) (Fv.mk (x:=(.inf false)) (h.r 7 rfl)) (Fv.mk (w:=w) (s:=.slice none 0 0) (x:=(.inf false)) (iA _)) rfl)) ?_
 refine Rf.aD aa 132 16 rfl ?_
 refine Rf.ak 34 _ (.a [vI 1,vF,.c 34 0,vI 4]) rfl (Pl.en Tryz.func42) (fun α γ w h=>fC 34 (gZ _ false 7 4 (by decide) (by decide))) ?_
 refine Rf.ak 35 _ _ rfl (Pl.en Tryz.func21) (fun α γ w h=>aU 35 (bH _ _ _ (.fin false 7 4) (.fin false 7 4) (Fv.mk (x:=(.fin false 7 4)) (h.r 9 rfl)) (Fv.mk (x:=(.fin false 7 4)) (h.r 34 rfl)) rfl)) ?_
 refine Rf.aD aa 132 16 rfl ?_
 refine Rf.Fb (.a [vI 0,vT,vN,vI 0]) [] rfl rfl rfl rfl rfl (fun _ _=>rfl) (fun α γ X=>by kernel_rfl) ?_
 refine Rf.ak 36 _ _ rfl (Pl.en Tryz.func21) (fun α γ w h=>aU 36 (bH _ _ _ (.zero true) (.zero true) (Fv.mk (x:=(.zero true)) (h.r 11 rfl)) (Fv.mk (w:=w) (s:=.slice none 0 0) (x:=(.zero true)) (iA _)) rfl)) ?_
 refine Rf.aD aa 132 16 rfl ?_
 refine Rf.ak 37 _ (.a [vI 1,vT,.c 37 0,vI (-3)]) rfl (Pl.en Tryz.func42) (fun α γ w h=>fC 37 (gZ _ true 1 (-3) (by decide) (by decide))) ?_
 refine Rf.ak 38 _ _ rfl (Pl.en Tryz.func21) (fun α γ w h=>aU 38 (bH _ _ _ (.fin true 1 (-3)) (.fin true 1 (-3)) (Fv.mk (x:=(.fin true 1 (-3))) (h.r 13 rfl)) (Fv.mk (x:=(.fin true 1 (-3))) (h.r 37 rfl)) rfl)) ?_
 refine Rf.aD aa 132 16 rfl ?_
 refine Rf.Fb (.a [vI 0,vF,vN,vI 0]) [] rfl rfl rfl rfl rfl (fun _ _=>rfl) (fun α γ X=>by kernel_rfl) ?_
 refine Rf.ak 39 _ _ rfl (Pl.en Tryz.func21) (fun α γ w h=>aU 39 (bH _ _ _ (.zero false) (.zero false) (Fv.mk (x:=(.zero false)) (h.r 15 rfl)) (Fv.mk (w:=w) (s:=.slice none 0 0) (x:=(.zero false)) (iA _)) rfl)) ?_
 refine Rf.aD aa 132 16 rfl ?_
 refine Rf.dL (vT) rfl (fun α γ w h=>(fun X=>aM (by decide) X) w) ?_
 refine Rf.aD aa 132 16 rfl ?_
 refine Rf.dL (vT) rfl (fun α γ w h=>(fun X=>aM (by decide) X) w) ?_
 refine Rf.aD aa 132 16 rfl ?_
 refine Rf.ak 40 _ _ rfl (Pl.en Tryz.func41) (fun α γ w h=>iP 40 (kC _ (-5) 2 (by decide) (by decide) (by decide))) ?_
 refine Rf.ak 41 _ _ rfl (Pl.en Tryz.func20) (fun α γ w h=>aU 41 ((by have h9:=Im _ _ _ (vf 2 (.fin true 5 (-1))) (Rat.divInt (-5) 2) 41 70 2 2 (h.r 21 rfl) (h.r 40 rfl) (by decide) (by decide) (by decide) (by decide);rw [decide_eq_true abo] at h9;exact h9))) ?_
 refine Rf.aD aa 132 16 rfl ?_
 refine Rf.ak 42 _ (.a [vI 1,vF,.c 42 0,vI (-2)]) rfl (Pl.en Tryz.func42) (fun α γ w h=>fC 42 (gZ _ false 1 (-2) (by decide) (by decide))) ?_
 refine Rf.ak 43 _ _ rfl (Pl.en Tryz.func15) (fun α γ w h=>aU 43 (ed _ _ (.fin false 1 (-2)) (Fv.mk (x:=(.fin false 1 (-2))) (h.r 42 rfl)) 2 3 (-2) 4 hf1 (show bO 2 3 (-2) 4 (.fin false 1 (-2)) from ⟨⟨by decide,by decide,by decide,by decide⟩,by decide⟩))) ?_
 refine Rf.aD aa 132 16 rfl ?_
 refine Rf.ak 44 _ (.a [vI 1,vF,.c 44 0,vI 0]) rfl (Pl.en Tryz.func42) (fun α γ w h=>fC 44 (gZ _ false 1 0 (by decide) (by decide))) ?_
 refine Rf.ak 45 _ _ rfl (Pl.en Tryz.func15) (fun α γ w h=>aU 45 (Qz _ _ false 1 0 (Fv.mk (x:=(.fin false 1 0)) (h.r 44 rfl)) 2 3 (-2) 4 hf1 (Sn.of (by decide)) (by decide) (by decide) (by decide) (by decide) (by decide) (by decide))) ?_
 refine Rf.wz (.bool true) rfl rfl rfl rfl rfl rfl rfl (fun X=>aT _ X) ?_
 refine Rf.aD aa 132 16 rfl ?_
 refine Rf.ak 46 _ (.a [vI 1,vF,.c 46 0,vI 0]) rfl (Pl.en Tryz.func42) (fun α γ w h=>fC 46 (gZ _ false 7 0 (by decide) (by decide))) ?_
 refine Rf.ak 47 (dW (mn (.fin false 4 1))) (.a [vI 1,vF,.c 47 0,vI 1]) rfl (Pl.en Tryz.func22) (fun α γ w h=>fC 47 (by have h9:=jf _ _ (.fin false 7 0) (Fv.mk (x:=(.fin false 7 0)) (h.r 46 rfl)) 2 3 (-2) 4 hf1 (show bO 2 3 (-2) 4 (.fin false 7 0) from ⟨⟨by decide,by decide,by decide,by decide⟩,by decide⟩);rw [show fE 2 3 (-2) 4 (.fin false 7 0)=(.fin false 4 1) from rfl] at h9;exact h9)) ?_
 refine Rf.ak 48 _ (.a [vI 1,vF,.c 48 0,vI 1]) rfl (Pl.en Tryz.func42) (fun α γ w h=>fC 48 (gZ _ false 4 1 (by decide) (by decide))) ?_
 refine Rf.ak 49 _ _ rfl (Pl.en Tryz.func21) (fun α γ w h=>aU 49 (bH _ _ _ (.fin false 4 1) (.fin false 4 1) (Fv.mk (x:=(.fin false 4 1)) (h.r 47 rfl)) (Fv.mk (x:=(.fin false 4 1)) (h.r 48 rfl)) rfl)) ?_
 refine Rf.aD aa 132 16 rfl ?_
 refine Rf.ak 50 _ (.a [vI 1,vF,.c 50 0,vI 4]) rfl (Pl.en Tryz.func42) (fun α γ w h=>fC 50 (gZ _ false 7 4 (by decide) (by decide))) ?_
 refine Rf.ak 51 (dW (mn (.inf false))) (.a [vI 2,vF,.c 51 0,vI 0]) rfl (Pl.en Tryz.func22) (fun α γ w h=>fC 51 (by have h9:=jf _ _ (.fin false 7 4) (Fv.mk (x:=(.fin false 7 4)) (h.r 50 rfl)) 2 3 (-2) 4 hf1 (show bO 2 3 (-2) 4 (.fin false 7 4) from ⟨⟨by decide,by decide,by decide,by decide⟩,by decide⟩);rw [show fE 2 3 (-2) 4 (.fin false 7 4)=(.inf false) from rfl] at h9;exact h9)) ?_
 refine Rf.aD aa 132 16 rfl ?_
 refine Rf.ak 52 _ _ rfl (Pl.en Tryz.func21) (fun α γ w h=>aU 52 (bH _ _ _ (.inf false) (.inf false) (Fv.mk (x:=(.inf false)) (h.r 51 rfl)) (Fv.mk (w:=w) (s:=.slice none 0 0) (x:=(.inf false)) (iA _)) rfl)) ?_
 refine Rf.aD aa 132 16 rfl ?_
 refine Rf.ak 53 _ (.a [vI 1,vT,.c 53 0,vI (-2)]) rfl (Pl.en Tryz.func42) (fun α γ w h=>fC 53 (gZ _ true 1 (-2) (by decide) (by decide))) ?_
 refine Rf.ak 54 (dW (mn (.zero true))) (.a [vI 0,vT,.c 54 0,vI 0]) rfl (Pl.en Tryz.func22) (fun α γ w h=>fC 54 (by have h9:=jf _ _ (.fin true 1 (-2)) (Fv.mk (x:=(.fin true 1 (-2))) (h.r 53 rfl)) 2 3 (-2) 4 hf1 (show bO 2 3 (-2) 4 (.fin true 1 (-2)) from ⟨⟨by decide,by decide,by decide,by decide⟩,by decide⟩);rw [show fE 2 3 (-2) 4 (.fin true 1 (-2))=(.zero true) from rfl] at h9;exact h9)) ?_
 refine Rf.Fb (.a [vI 0,vT,vN,vI 0]) [] rfl rfl rfl rfl rfl (fun _ _=>rfl) (fun α γ X=>by kernel_rfl) ?_
 refine Rf.ak 55 _ _ rfl (Pl.en Tryz.func21) (fun α γ w h=>aU 55 (bH _ _ _ (.zero true) (.zero true) (Fv.mk (x:=(.zero true)) (h.r 54 rfl)) (Fv.mk (w:=w) (s:=.slice none 0 0) (x:=(.zero true)) (iA _)) rfl)) ?_
 refine Rf.aD aa 132 16 rfl ?_
 refine Rf.ak 56 (dW (mn (.fin false 7 4))) (.a [vI 1,vF,.c 56 0,vI 4]) rfl (Pl.en Tryz.func24) (fun α γ w h=>fC 56 (by have h9:=jF _ _ (.inf false) (Fv.mk (w:=w) (s:=.slice none 0 0) (x:=(.inf false)) (iA _)) 2 3 (-2) 4 hf1 (show bO 2 3 (-2) 4 (.inf false) from trivial);rw [show fV 2 3 (-2) 4 (.inf false)=(.fin false 7 4) from rfl] at h9;exact h9)) ?_
 refine Rf.ak 57 _ (.a [vI 1,vF,.c 57 0,vI 4]) rfl (Pl.en Tryz.func42) (fun α γ w h=>fC 57 (gZ _ false 7 4 (by decide) (by decide))) ?_
 refine Rf.ak 58 _ _ rfl (Pl.en Tryz.func21) (fun α γ w h=>aU 58 (bH _ _ _ (.fin false 7 4) (.fin false 7 4) (Fv.mk (x:=(.fin false 7 4)) (h.r 56 rfl)) (Fv.mk (x:=(.fin false 7 4)) (h.r 57 rfl)) rfl)) ?_
 refine Rf.aD aa 132 16 rfl ?_
 refine Rf.Fb (.a [vI 0,vT,vN,vI 0]) [] rfl rfl rfl rfl rfl (fun _ _=>rfl) (fun α γ X=>by kernel_rfl) ?_
 refine Rf.ak 59 (dW (mn (.fin true 1 (-2)))) (.a [vI 1,vT,.c 59 0,vI (-2)]) rfl (Pl.en Tryz.func24) (fun α γ w h=>fC 59 (by have h9:=jF _ _ (.zero true) (Fv.mk (w:=w) (s:=.slice none 0 0) (x:=(.zero true)) (iA _)) 2 3 (-2) 4 hf1 (show bO 2 3 (-2) 4 (.zero true) from trivial);rw [show fV 2 3 (-2) 4 (.zero true)=(.fin true 1 (-2)) from rfl] at h9;exact h9)) ?_
 refine Rf.ak 60 _ (.a [vI 1,vT,.c 60 0,vI (-2)]) rfl (Pl.en Tryz.func42) (fun α γ w h=>fC 60 (gZ _ true 1 (-2) (by decide) (by decide))) ?_
 refine Rf.ak 61 _ _ rfl (Pl.en Tryz.func21) (fun α γ w h=>aU 61 (bH _ _ _ (.fin true 1 (-2)) (.fin true 1 (-2)) (Fv.mk (x:=(.fin true 1 (-2))) (h.r 59 rfl)) (Fv.mk (x:=(.fin true 1 (-2))) (h.r 60 rfl)) rfl)) ?_
 refine Rf.aD aa 132 16 rfl ?_
 refine Rf.ak 62 _ (.a [vI 1,vF,.c 62 0,vI 4]) rfl (Pl.en Tryz.func42) (fun α γ w h=>fC 62 (gZ _ false 7 4 (by decide) (by decide))) ?_
 refine Rf.ak 63 _ _ rfl (Pl.en Tryz.func26) (fun α γ w h=>aU 63 ((by have h9:=dN _ _ _ (.inf false) (.fin false 7 4) (Fv.mk (w:=w) (s:=.slice none 0 0) (x:=(.inf false)) (iA _)) (Fv.mk (x:=(.fin false 7 4)) (h.r 62 rfl)) 2 3 (-2) 4;rw [show kJ (.inf false) (.fin false 7 4)=1 from rfl] at h9;exact h9))) ?_
 refine Rf.dL (vT) rfl (fun α γ w h=>(fun X=>aM (by decide) X) w) ?_
 refine Rf.aD aa 132 16 rfl ?_
 refine Rf.Fb (.a [vI 0,vT,vN,vI 0]) [] rfl rfl rfl rfl rfl (fun _ _=>rfl) (fun α γ X=>by kernel_rfl) ?_
 refine Rf.Fb (.a [vI 0,vF,vN,vI 0]) [] rfl rfl rfl rfl rfl (fun _ _=>rfl) (fun α γ X=>by kernel_rfl) ?_
 refine Rf.ak 64 _ _ rfl (Pl.en Tryz.func26) (fun α γ w h=>aU 64 ((by have h9:=dN _ _ _ (.zero true) (.zero false) (Fv.mk (w:=w) (s:=.slice none 0 0) (x:=(.zero true)) (iA _)) (Fv.mk (w:=w) (s:=.slice none 0 0) (x:=(.zero false)) (iA _)) 2 3 (-2) 4;rw [show kJ (.zero true) (.zero false)=0 from rfl] at h9;exact h9))) ?_
 refine Rf.dL (vT) rfl (fun α γ w h=>(fun X=>aM (by decide) X) w) ?_
 refine Rf.aD aa 132 16 rfl ?_
 refine Rf.ak 65 _ (.a [vI 1,vT,.c 65 0,vI 1]) rfl (Pl.en Tryz.func42) (fun α γ w h=>fC 65 (gZ _ true 4 1 (by decide) (by decide))) ?_
 refine Rf.ak 66 _ (.a [vI 1,vT,.c 66 0,vI 0]) rfl (Pl.en Tryz.func42) (fun α γ w h=>fC 66 (gZ _ true 7 0 (by decide) (by decide))) ?_
 refine Rf.ak 67 _ _ rfl (Pl.en Tryz.func26) (fun α γ w h=>aU 67 ((by have h9:=dN _ _ _ (.fin true 4 1) (.fin true 7 0) (Fv.mk (x:=(.fin true 4 1)) (h.r 65 rfl)) (Fv.mk (x:=(.fin true 7 0)) (h.r 66 rfl)) 2 3 (-2) 4;rw [show kJ (.fin true 4 1) (.fin true 7 0) = -1 from rfl] at h9;exact h9))) ?_
 refine Rf.dL (vT) rfl (fun α γ w h=>(fun X=>aM (by decide) X) w) ?_
 refine Rf.aD aa 132 16 rfl ?_
 refine Rf.aW (by kernel_rfl) ?_
 refine Rf.aP [0] [] [] rfl ?_
 exact Rf.aaa aa rfl (fun α γ w h=>⟨rfl,h.ex⟩)
end Go.Proofs.YtgcieamfidoaoaaGreatDoor
