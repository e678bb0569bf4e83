/- Formats: right ones; where digits begin. -/
import Derived.Test.YtgcieamfidoaoaaGreatDoorEbc
import Derived.Test.YtgcieamfidoaoaaGreatDoorEbo
set_option linter.all false
set_option maxHeartbeats 8000000
namespace Go.Proofs.YtgcieamfidoaoaaGreatDoor
open Go.RowKit Rf Fm
set_option maxRecDepth 100000
def Px (b p:Nat) (q:Rat):Int:=(match b with | 10=>(((((bJ q.num.natAbs:Nat):Int)-((bJ q.den:Nat):Int))*30103)).tdiv 100000 | _=>((bJ q.num.natAbs:Nat):Int)-((bJ q.den:Nat):Int))-(p:Int)
theorem XW {P:Program} {T:TypeId} {x y:Operand} {a b:Int} (hb:b≠0) (h : -9223372036854775808≤a.tdiv b∧a.tdiv b≤9223372036854775807) (X:World):Pl.Bn P .quo T x y (.int .i64 a) (.int .i64 b) X = .ok (.int .i64 (a.tdiv b)) X:=Pl.aaJ hb (Pl.oC h.1 h.2) X
theorem Qd {P:Program} {T:TypeId} {x y:Operand} {a b:Int} (h : -9223372036854775808≤a*b∧a*b≤9223372036854775807) (X:World):Pl.Bn P .mul T x y (.int .i64 a) (.int .i64 b) X = .ok (.int .i64 (a*b)) X:=Pl.aaK (Pl.oC h.1 h.2) X
theorem qo {n:Nat} {K:Nat} (h:Sn n K):bJ n≤32*K:=cZ (by have:=h.lt;rwa [show (4294967296:Nat)=2^32 by decide,← Nat.pow_mul] at this)
theorem Fa {a:Int} (h : -28800000≤a∧a≤28800000) : -288≤a.tdiv 100000∧a.tdiv 100000≤288:=by
 rcases Int.le_total 0 a with h0 | h0
 · rw [Int.tdiv_eq_ediv_of_nonneg h0];omega
 · obtain ⟨c,rfl⟩:∃ c,a = -c:=⟨-a,by omega⟩
   rw [Int.neg_tdiv,Int.tdiv_eq_ediv_of_nonneg (by omega)];omega
theorem Uh (w:World) (p:Nat) (lo hi:Int) (hf:fT 2 p lo hi) :
  Calls Tryz.prog 13 #[.agg #[.int .i64 2,.int .i64 ((p:Nat):Int),.int .i64 lo,.int .i64 hi]] w fun e w'=>e = .returned (.bool true)∧Pl.Ex w w':=by
 have f1:=hf.p1
 have f2:=hf.ku
 have f3:=hf.l
 have f4:=hf.l1
 have f5:=hf.h1
 refine Rf.aA (n:=38) [.a [vI 2,vI ((p:Nat):Int),vI lo,vI hi]] [] [] Tryz.func13 rfl (by kernel_rfl) rfl rfl trivial ?_
 refine Rf.bu aa 1 0 rfl ?_
 refine Rf.ah (v:=.bool true) (fun X=>aM (by decide) X) rfl ?_
 refine Rf.ay aa 1 rfl ?_
 refine Rf.ah (v:=.bool true) (fun X=>bS (by omega) X) rfl ?_
 refine Rf.ay aa 1 rfl ?_
 refine Rf.ah (v:=.bool true) (fun X=>cO (by omega) X) rfl ?_
 refine Rf.ay aa 1 rfl ?_
 refine Rf.ah (v:=.bool true) (fun X=>cO (by omega) X) rfl ?_
 refine Rf.ay aa 1 rfl ?_
 refine Rf.ah (v:=.bool true) (fun X=>bS (by omega) X) rfl ?_
 refine Rf.ay aa 1 rfl ?_
 refine Rf.ah (v:=.bool true) (fun X=>cO (by omega) X) rfl ?_
 refine Rf.HY aa 0 1 rfl ?_
 exact Rf.aaa aa rfl (fun α γ w h=>⟨rfl,h.ex⟩)
theorem Qe (w:World) (p:Nat) (lo hi:Int) (hf:fT 10 p lo hi) :
  Calls Tryz.prog 13 #[.agg #[.int .i64 10,.int .i64 ((p:Nat):Int),.int .i64 lo,.int .i64 hi]] w fun e w'=>e = .returned (.bool true)∧Pl.Ex w w':=by
 have f1:=hf.p1
 have f2:=hf.ku
 have f3:=hf.l
 have f4:=hf.l1
 have f5:=hf.h1
 refine Rf.aA (n:=38) [.a [vI 10,vI ((p:Nat):Int),vI lo,vI hi]] [] [] Tryz.func13 rfl (by kernel_rfl) rfl rfl trivial ?_
 refine Rf.bu aa 1 0 rfl ?_
 refine Rf.ah (v:=.bool false) (fun X=>aK (by decide) X) rfl ?_
 refine Rf.ay aa 1 rfl ?_
 refine Rf.ah (v:=.bool true) (fun X=>aM (by decide) X) rfl ?_
 refine Rf.ay aa 1 rfl ?_
 refine Rf.ah (v:=.bool true) (fun X=>bS (by omega) X) rfl ?_
 refine Rf.ay aa 1 rfl ?_
 refine Rf.ah (v:=.bool true) (fun X=>cO (by omega) X) rfl ?_
 refine Rf.ay aa 1 rfl ?_
 refine Rf.ah (v:=.bool true) (fun X=>cO (by omega) X) rfl ?_
 refine Rf.ay aa 1 rfl ?_
 refine Rf.ah (v:=.bool true) (fun X=>bS (by omega) X) rfl ?_
 refine Rf.ay aa 1 rfl ?_
 refine Rf.ah (v:=.bool true) (fun X=>cO (by omega) X) rfl ?_
 refine Rf.HY aa 0 1 rfl ?_
 exact Rf.aaa aa rfl (fun α γ w h=>⟨rfl,h.ex⟩)
theorem ig (w:World) (b p:Nat) (lo hi:Int) (hf:fT b p lo hi) :
  Calls Tryz.prog 13 #[.agg #[.int .i64 ((b:Nat):Int),.int .i64 ((p:Nat):Int),.int .i64 lo,.int .i64 hi]] w fun e w'=>e = .returned (.bool true)∧Pl.Ex w w':=by
 rcases hf.r with rfl | rfl
 · exact Uh w p lo hi hf
 · exact Qe w p lo hi hf
theorem Ui (w:World) (va:Value) (q:Rat) (ha:Qn w va q 9 9) (p:Nat) (lo hi:Int) (hf:fT 2 p lo hi) :
  Calls Tryz.prog 71 #[va,.agg #[.int .i64 2,.int .i64 ((p:Nat):Int),.int .i64 lo,.int .i64 hi]] w fun e w'=>e = .returned (.int .i64 (Px 2 p q))∧Pl.Ex w w':=by
 obtain ⟨Aa,ca,Ba,ba,rfl,ua,ta,za,ya⟩:=ha
 have f1:=hf.p1
 have f2:=hf.ku
 have f3:=hf.l
 have f4:=hf.l1
 have f5:=hf.h1
 have b1:=qo (Sz.sn za)
 have b2:=qo ya
 refine Rf.aA (n:=24) [.a [.c 0 0,.c 0 1,.c 0 2],.a [vI 2,vI ((p:Nat):Int),vI lo,vI hi]] [[.bool (decide (Rat.num q<0)),.slice Aa (limbs (Rat.num q).natAbs).length ca,.slice Ba (limbs (Rat.den q)).length ba]] [(0,(pI q 9 9).S)] Tryz.func71 rfl (by kernel_rfl) rfl rfl ⟨RS.in ⟨Aa,ca,Ba,ba,rfl,ua,ta,za,ya⟩,trivial⟩ ?_
 refine Rf.HX aa 1 0 rfl ?_
 refine Rf.aQ none fo ?_
 refine Rf.aD aa 9 2 rfl ?_
 refine Rf.ak 1 _ _ rfl (Pl.en Tryz.func119) (fun α γ w h=>aU 1 (BK _ _ (Int.natAbs (Rat.num q)) (iW (h.r 0 rfl)).2.1 (Nat.le_trans (Sz.sn za) (by omega)) _ rfl)) ?_
 refine Rf.aD aa 9 2 rfl ?_
 refine Rf.ak 2 _ _ rfl (Pl.en Tryz.func119) (fun α γ w h=>aU 2 (BK _ _ (Rat.den q) (iW (h.r 0 rfl)).2.2.1 (Nat.le_trans ya (by omega)) _ rfl)) ?_
 refine Rf.Be (vI ((((bJ (Int.natAbs (Rat.num q))):Nat):Int)-(((bJ (Rat.den q)):Nat):Int))) rfl rfl rfl rfl rfl rfl rfl rfl rfl rfl (fun α γ w h=>(fun X=>eH (by omega) X) w) ?_
 refine Rf.aD aa 9 2 rfl ?_
 refine Rf.aW (by kernel_rfl) ?_
 refine Rf.aP [3,4,5] [1] [] rfl ?_
 refine Rf.bu aa 0 2 rfl ?_
 refine Rf.ah (v:=.bool false) (fun X=>aK (by decide) X) rfl ?_
 refine Rf.bY aa 2 2 rfl ?_
 refine Rf.ah (v:=.int .i64 ((((((bJ (Int.natAbs (Rat.num q))):Nat):Int)-(((bJ (Rat.den q)):Nat):Int))-(p:Int)))) (fun X=>eH (by omega) X) rfl ?_
 refine Rf.HY aa 0 2 rfl ?_
 exact Rf.aaa aa rfl (fun α γ w h=>⟨rfl,h.ex⟩)
theorem Qf (w:World) (va:Value) (q:Rat) (ha:Qn w va q 9 9) (p:Nat) (lo hi:Int) (hf:fT 10 p lo hi) :
  Calls Tryz.prog 71 #[va,.agg #[.int .i64 10,.int .i64 ((p:Nat):Int),.int .i64 lo,.int .i64 hi]] w fun e w'=>e = .returned (.int .i64 (Px 10 p q))∧Pl.Ex w w':=by
 obtain ⟨Aa,ca,Ba,ba,rfl,ua,ta,za,ya⟩:=ha
 have f1:=hf.p1
 have f2:=hf.ku
 have f3:=hf.l
 have f4:=hf.l1
 have f5:=hf.h1
 have b1:=qo (Sz.sn za)
 have b2:=qo ya
 refine Rf.aA (n:=24) [.a [.c 0 0,.c 0 1,.c 0 2],.a [vI 10,vI ((p:Nat):Int),vI lo,vI hi]] [[.bool (decide (Rat.num q<0)),.slice Aa (limbs (Rat.num q).natAbs).length ca,.slice Ba (limbs (Rat.den q)).length ba]] [(0,(pI q 9 9).S)] Tryz.func71 rfl (by kernel_rfl) rfl rfl ⟨RS.in ⟨Aa,ca,Ba,ba,rfl,ua,ta,za,ya⟩,trivial⟩ ?_
 refine Rf.HX aa 1 0 rfl ?_
 refine Rf.aQ none fo ?_
 refine Rf.aD aa 9 2 rfl ?_
 refine Rf.ak 1 _ _ rfl (Pl.en Tryz.func119) (fun α γ w h=>aU 1 (BK _ _ (Int.natAbs (Rat.num q)) (iW (h.r 0 rfl)).2.1 (Nat.le_trans (Sz.sn za) (by omega)) _ rfl)) ?_
 refine Rf.aD aa 9 2 rfl ?_
 refine Rf.ak 2 _ _ rfl (Pl.en Tryz.func119) (fun α γ w h=>aU 2 (BK _ _ (Rat.den q) (iW (h.r 0 rfl)).2.2.1 (Nat.le_trans ya (by omega)) _ rfl)) ?_
 refine Rf.Be (vI ((((bJ (Int.natAbs (Rat.num q))):Nat):Int)-(((bJ (Rat.den q)):Nat):Int))) rfl rfl rfl rfl rfl rfl rfl rfl rfl rfl (fun α γ w h=>(fun X=>eH (by omega) X) w) ?_
 refine Rf.aD aa 9 2 rfl ?_
 refine Rf.aW (by kernel_rfl) ?_
 refine Rf.aP [3,4,5] [1] [] rfl ?_
 refine Rf.bu aa 0 2 rfl ?_
 refine Rf.ah (v:=.bool true) (fun X=>aM (by decide) X) rfl ?_
 refine Rf.bY aa 1 2 rfl ?_
 refine Rf.ah (v:=.int .i64 (((((((bJ (Int.natAbs (Rat.num q))):Nat):Int)-(((bJ (Rat.den q)):Nat):Int)))*30103))) (fun X=>Qd (by omega) X) rfl ?_
 refine Rf.ah (v:=.int .i64 ((Int.tdiv ((((((bJ (Int.natAbs (Rat.num q))):Nat):Int)-(((bJ (Rat.den q)):Nat):Int)))*30103) 100000))) (fun X=>XW (by decide) (by have:=Fa (a:=((((((bJ (Int.natAbs (Rat.num q))):Nat):Int)-(((bJ (Rat.den q)):Nat):Int)))*30103)) (by omega);omega) X) rfl ?_
 refine Rf.bY aa 0 2 rfl ?_
 have b3:=Fa (a:=((((((bJ (Int.natAbs (Rat.num q))):Nat):Int)-(((bJ (Rat.den q)):Nat):Int)))*30103)) (by omega)
 refine Rf.ay aa 2 rfl ?_
 refine Rf.ah (v:=.int .i64 (((Int.tdiv ((((((bJ (Int.natAbs (Rat.num q))):Nat):Int)-(((bJ (Rat.den q)):Nat):Int)))*30103) 100000)-(p:Int)))) (fun X=>eH (by omega) X) rfl ?_
 refine Rf.HY aa 0 2 rfl ?_
 exact Rf.aaa aa rfl (fun α γ w h=>⟨rfl,h.ex⟩)
theorem XX {b p:Nat} {q:Rat} (hb:b=2∨b=10) (hp:1≤p) (hp2:p≤17) (h1:Sz q.num 9) (h2:Sn q.den 9) : -1100≤Px b p q∧Px b p q≤287:=by
 have b1:=qo (Sz.sn h1)
 have b2:=qo h2
 rcases hb with rfl | rfl
 · show -1100≤(((bJ q.num.natAbs:Nat):Int)-((bJ q.den:Nat):Int))-(p:Int)∧_≤(287:Int)
   refine ⟨by omega,?_⟩
   show (((bJ q.num.natAbs:Nat):Int)-((bJ q.den:Nat):Int))-(p:Int)≤287
   omega
 · have h3:=Fa (a:=(((bJ q.num.natAbs:Nat):Int)-((bJ q.den:Nat):Int))*30103) (by omega)
   show -1100≤((((bJ q.num.natAbs:Nat):Int)-((bJ q.den:Nat):Int))*30103).tdiv 100000-(p:Int)∧_≤(287:Int)
   refine ⟨by omega,?_⟩
   show ((((bJ q.num.natAbs:Nat):Int)-((bJ q.den:Nat):Int))*30103).tdiv 100000-(p:Int)≤287
   omega
end Go.Proofs.YtgcieamfidoaoaaGreatDoor
/- Where digits begin: what is whole of a size, and where the rest lies. -/
namespace Go.Proofs.YtgcieamfidoaoaaGreatDoor
open Go.RowKit Rf Fm
set_option maxRecDepth 100000
theorem Qg {n:Nat}:((((limbs n).length:Nat):Int)>0)↔n≠0:=by
 have:=@jQ n
 omega
theorem Uj {z:Int} (h:0≤z):((qp z.natAbs 0:Nat):Int)=1↔z%2=1:=by
 unfold qp
 rw [if_neg (by decide),show ((0:Int).toNat)=0 from rfl,Nat.pow_zero,Nat.div_one]
 omega
theorem Uk {P:Program} {T:TypeId} {x y:Operand} (a:Nat) (X:World):Pl.Bn P .eql T x y (.int .u32 (a:Int)) (.int .u32 1) X = .ok (.bool (decide ((a:Int)=1))) X:=by
 by_cases h:(a:Int)=1
 · rw [decide_eq_true h];exact Pl.xA (Pl.e_t h) X
 · rw [decide_eq_false h];exact Pl.xA (Pl.e_f h) X
theorem Wx {P:Program} {T:TypeId} {x y:Operand} {n:Nat} {B:Bool} (h:decide (n≠0)=B) (X:World):Pl.Bn P .gtr T x y (.int .i64 (((limbs n).length:Nat):Int)) (.int .i64 0) X = .ok (.bool B) X:=by
 subst h
 rw [show decide (n≠0)=decide ((((limbs n).length:Nat):Int)>0) from decide_eq_decide.2 Qg.symm]
 exact XY _ _ X
theorem Wy {P:Program} {T:TypeId} {x y:Operand} {z:Int} {B:Bool} (h0:0≤z) (h:decide (z%2=1)=B) (X:World):Pl.Bn P .eql T x y (.int .u32 ((qp z.natAbs 0:Nat):Int)) (.int .u32 1) X = .ok (.bool B) X:=by
 subst h
 rw [show decide (z%2=1)=decide (((qp z.natAbs 0:Nat):Int)=1) from decide_eq_decide.2 (Uj h0).symm]
 exact Uk _ X
theorem Qn.open' {w:World} {v:Value} {q:Rat} {L M:Nat} (h:Qn w v q L M):∃ A c B b,v = .agg #[.bool (decide (q<0)),.slice A (limbs q.num.natAbs).length c,.slice B (limbs q.den).length b]∧Un w (.slice A (limbs q.num.natAbs).length c) q.num.natAbs∧Un w (.slice B (limbs q.den).length b) q.den∧Sz q.num L∧Sn q.den M:=by
 obtain ⟨A,c,B,b,e,u,t,z,y⟩:=h
 refine ⟨A,c,B,b,?_,u,t,z,y⟩
 rw [e,show decide (q.num<0)=decide (q<0) from decide_eq_decide.2 (by rw [← Rat.not_le,← Rat.num_nonneg];omega)]
theorem LY {b p:Nat} {s:Rat} {e:Int} (h:((b^p:Nat):Int)≤dg b s e):qX b p s e=1:=if_pos h
theorem LZ {b p:Nat} {s:Rat} {e:Int} (h:¬ ((b^p:Nat):Int)≤dg b s e) (h2:dg b s e<((b^(p-1):Nat):Int)):qX b p s e = -1:=by unfold qX;rw [if_neg h,if_pos h2]
theorem Ie {b p:Nat} {s:Rat} {e:Int} (h:¬ ((b^p:Nat):Int)≤dg b s e) (h2:¬ dg b s e<((b^(p-1):Nat):Int)):qX b p s e=0:=by unfold qX;rw [if_neg h,if_neg h2]
theorem gW {a b:Int}:bN a b≥0↔b≤a:=by unfold bN;split<;>(try split)<;>omega
theorem je {a b:Int}:bN a b<0↔a<b:=by unfold bN;split<;>(try split)<;>omega
theorem xC {a b:Int}:bN a b=0↔a=b:=by unfold bN;split<;>(try split)<;>omega
structure Dgs (b:Nat) (S:Rat) (e N D:Int):Prop where
 p:0<D
 n:0≤N
 g:dg b S e=N/D
 a:N%D≠0↔0<rest b S e
 m:bN (shl (N%D) 1) D=yN (rest b S e)
theorem Dgs.of {b:Nat} {S:Rat} {e N D:Int} (hn:0≤N) (hD:0<D) (hx:S*bp b (-e)=(N:Rat)/(D:Rat)):Dgs b S e N D:=by
 have h1:=Int.emod_nonneg N (show D≠0 by omega)
 refine ⟨hD,hn,Bg hD hx,by rw [← BP hD hx];omega,?_⟩
 rw [← Ul hD hx]
 unfold bN
 rw [show shl (N%D) 1=2*(N%D) by show N%D*2^1=_;omega]
theorem Qh (w:World) (va:Value) (q:Rat) (ha:Qn w va q 9 9) (b p:Nat) (lo hi:Int) (hf:fT b p lo hi) (ee:Int) (h1 : -300≤ee) (h2:ee≤300) (h0:0≤ee) :
  Calls Tryz.prog 72 #[va,.agg #[.int .i64 ((b:Nat):Int),.int .i64 ((p:Nat):Int),.int .i64 lo,.int .i64 hi],.int .i64 ee] w fun e w'=>∃ u,e = .returned (.tuple #[u,.agg #[.bool (decide (0<rest b (if q<0 then -q else q) ee)),.int .i64 (yN (rest b (if q<0 then -q else q) ee)),.bool (decide (dg b (if q<0 then -q else q) ee%2=1)),.bool (decide (q<0))],.int .i64 (qX b p (if q<0 then -q else q) ee)])∧Un w' u (dg b (if q<0 then -q else q) ee).natAbs∧Pl.Ex w w':=by
 obtain ⟨Aa,ca,Ba,ba,rfl,ua,ta,za,ya⟩:=ha.open'
 have f1:=hf.p1
 have f2:=hf.ku
 have f3:=hf.l
 have f4:=hf.l1
 have f5:=hf.h1
 obtain ⟨S,hS⟩:∃ S,(if q<0 then -q else q)=S:=⟨_,rfl⟩
 rw [hS]
 have hfr:=hS.symm.trans (xD q)
 have hdp:(0:Int)<((q.den:Nat):Int):=by have:=q.den_pos;omega
 obtain ⟨k,rfl⟩:∃ k:Nat,ee=(k:Int):=⟨ee.toNat,by omega⟩
 have hmx:max (k:Int) (-(k:Int))=(k:Int):=by omega
 have hsc:=BQ hf.b2 hdp hfr h0
 rw [show ((k:Int)).toNat=k by omega] at hsc
 have hD:=Dgs.of (by omega) hsc.2 hsc.1
 obtain ⟨B1,hB1⟩:∃ B,decide (0<rest b S ((k:Nat):Int))=B:=⟨_,rfl⟩
 obtain ⟨O1,hO1⟩:∃ B,decide (dg b S ((k:Nat):Int)%2=1)=B:=⟨_,rfl⟩
 obtain ⟨M1,hM1⟩:∃ B,yN (rest b S ((k:Nat):Int))=B:=⟨_,rfl⟩
 obtain ⟨Q1,Pv⟩:∃ B,decide (q<0)=B:=⟨_,rfl⟩
 rw [hB1,hO1,hM1,Pv]
 have hdn:0≤((Int.natAbs q.num:Nat):Int)/(((q.den:Nat):Int)*((b^k:Nat):Int)):=Int.ediv_nonneg hD.n (Int.le_of_lt hD.p)
 have hA1:decide (Int.natAbs (((Int.natAbs q.num:Nat):Int)%(((q.den:Nat):Int)*((b^k:Nat):Int)))≠0)=B1:=by rw [← hB1];exact decide_eq_decide.2 (by rw [← hD.a,Ne,Int.natAbs_eq_zero])
 have hO2:decide ((((Int.natAbs q.num:Nat):Int)/(((q.den:Nat):Int)*((b^k:Nat):Int)))%2=1)=O1:=by rw [← hO1,hD.g]
 refine Rf.aA (n:=89) [.a [vB Q1,.c 0 0,.c 1 0],.a [vI ((b:Nat):Int),vI ((p:Nat):Int),vI lo,vI hi],vI ((k:Nat):Int)] [[.slice Aa (limbs (Int.natAbs q.num)).length ca],[.slice Ba (limbs q.den).length ba]] [(0,(dW (Int.natAbs q.num)).S),(1,(dW q.den).S)] Tryz.func72 rfl (by kernel_rfl) rfl rfl ⟨RS.in ua,RS.in ta,trivial⟩ ?_
 refine Rf.HX aa 1 0 rfl ?_
 refine Rf.aQ none fo ?_
 refine Rf.aD aa 11 3 rfl ?_
 refine Rf.ak 2 _ _ rfl (Pl.en Tryz.func49) (fun α γ w h=>gz 2 (kL _ false _ (limbs (Int.natAbs q.num)) (h.r 0 rfl) _ (aJ _) (((Int.natAbs q.num):Nat):Int) rfl)) ?_
 refine Rf.aD aa 11 3 rfl ?_
 refine Rf.ak 3 _ _ rfl (Pl.en Tryz.func49) (fun α γ w h=>gz 3 (kL _ false _ (limbs q.den) (h.r 1 rfl) _ (aJ _) ((q.den:Nat):Int) rfl)) ?_
 refine Rf.aD aa 11 3 rfl ?_
 refine Rf.aW (by kernel_rfl) ?_
 refine Rf.aP [2,3,4,6,7,8,9,10] [0,1,2,3,4] [0,1,2,3] rfl ?_
 refine Rf.bu aa 0 5 rfl ?_
 refine Rf.aV (.int .i64 (-((k:Nat):Int))) rfl (fun X=>qY (by omega) X) ?_
 refine Rf.Wv (c:=((k:Nat):Int)) hmx rfl rfl rfl rfl rfl rfl ?_
 refine Rf.aC 4 _ _ rfl (Pl.en Tryz.func45) (fun α γ w h=>dO 4 (bI _ b p k lo hi ((k:Nat):Int) hf.r (by omega) (by omega))) ?_
 refine Rf.aC 5 _ _ rfl (Pl.en Tryz.func49) (fun α γ w h=>gz 5 (kL _ false _ (limbs (b^k)) (h.r 4 rfl) _ (aJ _) (((b^k):Nat):Int) rfl)) ?_
 refine Rf.bY aa 0 5 rfl ?_
 refine Rf.ah (v:=.bool true) (fun X=>bS (by omega) X) rfl ?_
 refine Rf.bY aa 1 6 rfl ?_
 refine Rf.aC 6 _ _ rfl (Pl.en Tryz.func51) (fun α γ w h=>gz 6 (Um _ _ _ ((q.den:Nat):Int) (((b^k):Nat):Int) (h.r 3 rfl) (h.r 5 rfl) (Sz.le (Sn.sz ya) (by decide)) (Sz.le (Sn.sz (bK hf.r (by omega):Sn (b^k) 38)) (by decide)) _ rfl)) ?_
 refine Rf.bY aa 0 6 rfl ?_
 refine Rf.aC 7 (Z2R ((((Int.natAbs q.num):Nat):Int)/(((q.den:Nat):Int)*(((b^k):Nat):Int))) ((((Int.natAbs q.num):Nat):Int)%(((q.den:Nat):Int)*(((b^k):Nat):Int)))) (.t [.a [.c 7 0,.c 7 1],.a [.c 7 2,.c 7 3],vI 0]) rfl (Pl.en Tryz.func120) (fun α γ w h=>Wt 7 (Qi _ _ _ (((Int.natAbs q.num):Nat):Int) (((q.den:Nat):Int)*(((b^k):Nat):Int)) (h.r 2 rfl) (h.r 6 rfl) (Sz.le (Sn.sz (Sz.sn za)) (by decide)) (Sz.le (Sz.mul (Sn.sz ya) (Sn.sz (bK hf.r (by omega):Sn (b^k) 38)) (by decide):Sz (((q.den:Nat):Int)*(((b^k):Nat):Int)) 47) (by decide)) (by have:=hD.p;omega) _ _ rfl rfl)) ?_
 refine Rf.HY aa 0 6 rfl ?_
 refine Rf.aQ none fo ?_
 refine Rf.aD aa 18 8 rfl ?_
 refine Rf.Ej ((limbs (Int.natAbs ((((Int.natAbs q.num):Nat):Int)%(((q.den:Nat):Int)*(((b^k):Nat):Int))))).length) Tryz.underlying24 rfl rfl rfl rfl rfl rfl rfl rfl (fun w f h=>(Un.jX (iE h.2))) ?_
 refine Rf.dL (vB B1) rfl (fun α γ w h=>(fun X=>Wx hA1 X) w) ?_
 refine Rf.aD aa 18 8 rfl ?_
 refine Rf.ak 8 _ _ rfl (Pl.en Tryz.func122) (fun α γ w h=>gz 8 (Qj _ _ ((((Int.natAbs q.num):Nat):Int)%(((q.den:Nat):Int)*(((b^k):Nat):Int))) 1 (h.r 7 rfl).2 (Nat.le_trans (Sz.mod (Sz.mul (Sn.sz ya) (Sn.sz (bK hf.r (by omega):Sn (b^k) 38)) (by decide):Sz (((q.den:Nat):Int)*(((b^k):Nat):Int)) 47) (by have:=hD.p;omega)) (by decide)) (by decide) (by decide) (shl ((((Int.natAbs q.num):Nat):Int)%(((q.den:Nat):Int)*(((b^k):Nat):Int))) 1) rfl)) ?_
 refine Rf.aD aa 18 8 rfl ?_
 refine Rf.ak 9 _ _ rfl (Pl.en Tryz.func121) (fun α γ w h=>aU 9 (aaM _ _ _ (shl ((((Int.natAbs q.num):Nat):Int)%(((q.den:Nat):Int)*(((b^k):Nat):Int))) 1) (((q.den:Nat):Int)*(((b^k):Nat):Int)) (h.r 8 rfl) (h.r 6 rfl) _ (hD.m.trans hM1))) ?_
 refine Rf.aD aa 18 8 rfl ?_
 refine Rf.ak 10 _ _ rfl (Pl.en Tryz.func123) (fun α γ w h=>aU 10 (Wz _ _ (Int.natAbs ((((Int.natAbs q.num):Nat):Int)/(((q.den:Nat):Int)*(((b^k):Nat):Int)))) 0 (iE (h.r 7 rfl).1) (by omega) (by omega) _ rfl)) ?_
 refine Rf.dL (vB O1) rfl (fun α γ w h=>(fun X=>Wy hdn hO2 X) w) ?_
 refine Rf.aD aa 18 8 rfl ?_
 refine Rf.Fb (.a [vB B1,vI M1,vB O1,vB Q1]) [48,52,56,59] rfl rfl rfl rfl rfl (fun _ _=>rfl) (fun α γ X=>by kernel_rfl) ?_
 refine Rf.aD aa 18 8 rfl ?_
 refine Rf.aW (by kernel_rfl) ?_
 refine Rf.aP [4,6,7,8,12,15] [1,2,6,8] [7] rfl ?_
 repeat refine Rf.aO ?_
 refine Rf.bf ?_
 repeat refine Rf.aO ?_
 by_cases hb:((b^p:Nat):Int)≤dg b S ((k:Nat):Int)
 · refine Rf.iB none fo rfl ?_
   refine Rf.aD aa 9 9 rfl ?_
   refine Rf.ak 11 _ _ rfl (Pl.en Tryz.func45) (fun α γ w h=>dO 11 (bI _ b p p lo hi ((p:Nat):Int) hf.r (by omega) (by omega))) ?_
   refine Rf.ak 12 _ _ rfl (Pl.en Tryz.func44) (fun α γ w h=>aU 12 (jv _ _ _ (Int.natAbs ((((Int.natAbs q.num):Nat):Int)/(((q.den:Nat):Int)*(((b^k):Nat):Int)))) (b^p) (iE (h.r 7 rfl).1) (h.r 11 rfl) _ rfl)) ?_
   refine Rf.dL (vT) rfl (fun α γ w h=>(fun X=>bS (gW.2 (by have h9:=hb;rw [hD.g] at h9;omega)) X) w) ?_
   refine Rf.aD aa 9 9 rfl ?_
   refine Rf.aW (by kernel_rfl) ?_
   refine Rf.aP [4,6,7,8,12,15,61] [1,2,6,8] [7] rfl ?_
   refine Rf.HX aa 1 0 rfl ?_
   refine Rf.aQ none fo ?_
   refine Rf.aD aa 6 9 rfl ?_
   refine Rf.aW (by kernel_rfl) ?_
   refine Rf.aP [6,7,8,12,15] [2,6,8] [7] rfl ?_
   repeat refine Rf.aO ?_
   exact Rf.aI aa (fun _ _ h=>Pl.dG (Pl.eD h)) rfl rfl (fun α γ w h=>⟨_,by rw [LY hb];rfl,by rw [hD.g];exact (iE (h.r 7 rfl).1),h.ex⟩)
 · by_cases hl:dg b S ((k:Nat):Int)<((b^(p-1):Nat):Int)
   · refine Rf.iB none fo rfl ?_
     refine Rf.aD aa 9 9 rfl ?_
     refine Rf.ak 11 _ _ rfl (Pl.en Tryz.func45) (fun α γ w h=>dO 11 (bI _ b p p lo hi ((p:Nat):Int) hf.r (by omega) (by omega))) ?_
     refine Rf.ak 12 _ _ rfl (Pl.en Tryz.func44) (fun α γ w h=>aU 12 (jv _ _ _ (Int.natAbs ((((Int.natAbs q.num):Nat):Int)/(((q.den:Nat):Int)*(((b^k):Nat):Int)))) (b^p) (iE (h.r 7 rfl).1) (h.r 11 rfl) _ rfl)) ?_
     refine Rf.dL (vF) rfl (fun α γ w h=>(fun X=>gJ (fun h=>hb (by have h9:=gW.1 h;rw [hD.g];omega)) X) w) ?_
     refine Rf.aD aa 9 9 rfl ?_
     refine Rf.aW (by kernel_rfl) ?_
     refine Rf.aP [4,6,7,8,12,15,61] [1,2,6,8] [7] rfl ?_
     refine Rf.HX aa 1 0 rfl ?_
     refine Rf.aQ none fo ?_
     refine Rf.aD aa 10 9 rfl ?_
     refine Rf.Be (vI (((p:Nat):Int)-1)) rfl rfl rfl rfl rfl rfl rfl rfl rfl rfl (fun α γ w h=>(fun X=>eH (by omega) X) w) ?_
     refine Rf.ak 13 _ _ rfl (Pl.en Tryz.func45) (fun α γ w h=>dO 13 (bI _ b p (p-1) lo hi (((p:Nat):Int)-1) hf.r (by omega) (by omega))) ?_
     refine Rf.ak 14 _ _ rfl (Pl.en Tryz.func44) (fun α γ w h=>aU 14 (jv _ _ _ (Int.natAbs ((((Int.natAbs q.num):Nat):Int)/(((q.den:Nat):Int)*(((b^k):Nat):Int)))) (b^(p-1)) (iE (h.r 7 rfl).1) (h.r 13 rfl) _ rfl)) ?_
     refine Rf.dL (vT) rfl (fun α γ w h=>(fun X=>bL (je.2 (by have h9:=hl;rw [hD.g] at h9;omega)) X) w) ?_
     refine Rf.aD aa 10 9 rfl ?_
     refine Rf.aW (by kernel_rfl) ?_
     refine Rf.aP [6,7,8,12,15,73] [2,6,8] [7] rfl ?_
     refine Rf.HX aa 1 0 rfl ?_
     refine Rf.aQ none fo ?_
     refine Rf.aD aa 6 9 rfl ?_
     refine Rf.aW (by kernel_rfl) ?_
     refine Rf.aP [6,7,8,12,15] [2,6,8] [7] rfl ?_
     repeat refine Rf.aO ?_
     exact Rf.aI aa (fun _ _ h=>Pl.dG (Pl.eD h)) rfl rfl (fun α γ w h=>⟨_,by rw [LZ hb hl];rfl,by rw [hD.g];exact (iE (h.r 7 rfl).1),h.ex⟩)
   · refine Rf.iB none fo rfl ?_
     refine Rf.aD aa 9 9 rfl ?_
     refine Rf.ak 11 _ _ rfl (Pl.en Tryz.func45) (fun α γ w h=>dO 11 (bI _ b p p lo hi ((p:Nat):Int) hf.r (by omega) (by omega))) ?_
     refine Rf.ak 12 _ _ rfl (Pl.en Tryz.func44) (fun α γ w h=>aU 12 (jv _ _ _ (Int.natAbs ((((Int.natAbs q.num):Nat):Int)/(((q.den:Nat):Int)*(((b^k):Nat):Int)))) (b^p) (iE (h.r 7 rfl).1) (h.r 11 rfl) _ rfl)) ?_
     refine Rf.dL (vF) rfl (fun α γ w h=>(fun X=>gJ (fun h=>hb (by have h9:=gW.1 h;rw [hD.g];omega)) X) w) ?_
     refine Rf.aD aa 9 9 rfl ?_
     refine Rf.aW (by kernel_rfl) ?_
     refine Rf.aP [4,6,7,8,12,15,61] [1,2,6,8] [7] rfl ?_
     refine Rf.HX aa 1 0 rfl ?_
     refine Rf.aQ none fo ?_
     refine Rf.aD aa 10 9 rfl ?_
     refine Rf.Be (vI (((p:Nat):Int)-1)) rfl rfl rfl rfl rfl rfl rfl rfl rfl rfl (fun α γ w h=>(fun X=>eH (by omega) X) w) ?_
     refine Rf.ak 13 _ _ rfl (Pl.en Tryz.func45) (fun α γ w h=>dO 13 (bI _ b p (p-1) lo hi (((p:Nat):Int)-1) hf.r (by omega) (by omega))) ?_
     refine Rf.ak 14 _ _ rfl (Pl.en Tryz.func44) (fun α γ w h=>aU 14 (jv _ _ _ (Int.natAbs ((((Int.natAbs q.num):Nat):Int)/(((q.den:Nat):Int)*(((b^k):Nat):Int)))) (b^(p-1)) (iE (h.r 7 rfl).1) (h.r 13 rfl) _ rfl)) ?_
     refine Rf.dL (vF) rfl (fun α γ w h=>(fun X=>bM (fun h=>hl (by have h9:=je.1 h;rw [hD.g];omega)) X) w) ?_
     refine Rf.aD aa 10 9 rfl ?_
     refine Rf.aW (by kernel_rfl) ?_
     refine Rf.aP [6,7,8,12,15,73] [2,6,8] [7] rfl ?_
     refine Rf.HX aa 2 0 rfl ?_
     refine Rf.aZ ?_
     refine Rf.iB none fo rfl ?_
     refine Rf.aD aa 6 9 rfl ?_
     refine Rf.aW (by kernel_rfl) ?_
     refine Rf.aP [6,7,8] [2] [7] rfl ?_
     exact Rf.aaa aa rfl (fun α γ w h=>⟨_,by rw [Ie hb hl];rfl,by rw [hD.g];exact (iE (h.r 7 rfl).1),h.ex⟩)
theorem Qk (w:World) (va:Value) (q:Rat) (ha:Qn w va q 9 9) (b p:Nat) (lo hi:Int) (hf:fT b p lo hi) (ee:Int) (h1 : -300≤ee) (h2:ee≤300) (h0:ee<0) :
  Calls Tryz.prog 72 #[va,.agg #[.int .i64 ((b:Nat):Int),.int .i64 ((p:Nat):Int),.int .i64 lo,.int .i64 hi],.int .i64 ee] w fun e w'=>∃ u,e = .returned (.tuple #[u,.agg #[.bool (decide (0<rest b (if q<0 then -q else q) ee)),.int .i64 (yN (rest b (if q<0 then -q else q) ee)),.bool (decide (dg b (if q<0 then -q else q) ee%2=1)),.bool (decide (q<0))],.int .i64 (qX b p (if q<0 then -q else q) ee)])∧Un w' u (dg b (if q<0 then -q else q) ee).natAbs∧Pl.Ex w w':=by
 obtain ⟨Aa,ca,Ba,ba,rfl,ua,ta,za,ya⟩:=ha.open'
 have f1:=hf.p1
 have f2:=hf.ku
 have f3:=hf.l
 have f4:=hf.l1
 have f5:=hf.h1
 obtain ⟨S,hS⟩:∃ S,(if q<0 then -q else q)=S:=⟨_,rfl⟩
 rw [hS]
 have hfr:=hS.symm.trans (xD q)
 have hdp:(0:Int)<((q.den:Nat):Int):=by have:=q.den_pos;omega
 obtain ⟨k,rfl⟩:∃ k:Nat,ee = -(k:Int):=⟨(-ee).toNat,by omega⟩
 have hmx:max (-(k:Int)) (- -(k:Int))=(k:Int):=by omega
 have hsc:=BR (b:=b) hfr h0
 rw [show (- -(k:Int)).toNat=k by omega] at hsc
 have hD:=Dgs.of (Int.mul_nonneg (by omega) (by omega)) hdp hsc
 obtain ⟨B1,hB1⟩:∃ B,decide (0<rest b S (-((k:Nat):Int)))=B:=⟨_,rfl⟩
 obtain ⟨O1,hO1⟩:∃ B,decide (dg b S (-((k:Nat):Int))%2=1)=B:=⟨_,rfl⟩
 obtain ⟨M1,hM1⟩:∃ B,yN (rest b S (-((k:Nat):Int)))=B:=⟨_,rfl⟩
 obtain ⟨Q1,Pv⟩:∃ B,decide (q<0)=B:=⟨_,rfl⟩
 rw [hB1,hO1,hM1,Pv]
 have hdn:0≤(((Int.natAbs q.num:Nat):Int)*((b^k:Nat):Int))/((q.den:Nat):Int):=Int.ediv_nonneg hD.n (Int.le_of_lt hD.p)
 have hA1:decide (Int.natAbs ((((Int.natAbs q.num:Nat):Int)*((b^k:Nat):Int))%((q.den:Nat):Int))≠0)=B1:=by rw [← hB1];exact decide_eq_decide.2 (by rw [← hD.a,Ne,Int.natAbs_eq_zero])
 have hO2:decide (((((Int.natAbs q.num:Nat):Int)*((b^k:Nat):Int))/((q.den:Nat):Int))%2=1)=O1:=by rw [← hO1,hD.g]
 refine Rf.aA (n:=89) [.a [vB Q1,.c 0 0,.c 1 0],.a [vI ((b:Nat):Int),vI ((p:Nat):Int),vI lo,vI hi],vI (-((k:Nat):Int))] [[.slice Aa (limbs (Int.natAbs q.num)).length ca],[.slice Ba (limbs q.den).length ba]] [(0,(dW (Int.natAbs q.num)).S),(1,(dW q.den).S)] Tryz.func72 rfl (by kernel_rfl) rfl rfl ⟨RS.in ua,RS.in ta,trivial⟩ ?_
 refine Rf.HX aa 1 0 rfl ?_
 refine Rf.aQ none fo ?_
 refine Rf.aD aa 11 3 rfl ?_
 refine Rf.ak 2 _ _ rfl (Pl.en Tryz.func49) (fun α γ w h=>gz 2 (kL _ false _ (limbs (Int.natAbs q.num)) (h.r 0 rfl) _ (aJ _) (((Int.natAbs q.num):Nat):Int) rfl)) ?_
 refine Rf.aD aa 11 3 rfl ?_
 refine Rf.ak 3 _ _ rfl (Pl.en Tryz.func49) (fun α γ w h=>gz 3 (kL _ false _ (limbs q.den) (h.r 1 rfl) _ (aJ _) ((q.den:Nat):Int) rfl)) ?_
 refine Rf.aD aa 11 3 rfl ?_
 refine Rf.aW (by kernel_rfl) ?_
 refine Rf.aP [2,3,4,6,7,8,9,10] [0,1,2,3,4] [0,1,2,3] rfl ?_
 refine Rf.bu aa 0 5 rfl ?_
 refine Rf.aV (.int .i64 (- -((k:Nat):Int))) rfl (fun X=>qY (by omega) X) ?_
 refine Rf.Wv (c:=((k:Nat):Int)) hmx rfl rfl rfl rfl rfl rfl ?_
 refine Rf.aC 4 _ _ rfl (Pl.en Tryz.func45) (fun α γ w h=>dO 4 (bI _ b p k lo hi ((k:Nat):Int) hf.r (by omega) (by omega))) ?_
 refine Rf.aC 5 _ _ rfl (Pl.en Tryz.func49) (fun α γ w h=>gz 5 (kL _ false _ (limbs (b^k)) (h.r 4 rfl) _ (aJ _) (((b^k):Nat):Int) rfl)) ?_
 refine Rf.bY aa 0 5 rfl ?_
 refine Rf.ah (v:=.bool false) (fun X=>gJ (by omega) X) rfl ?_
 refine Rf.bY aa 1 6 rfl ?_
 refine Rf.aC 6 _ _ rfl (Pl.en Tryz.func51) (fun α γ w h=>gz 6 (Um _ _ _ (((Int.natAbs q.num):Nat):Int) (((b^k):Nat):Int) (h.r 2 rfl) (h.r 5 rfl) (Sz.le (Sn.sz (Sz.sn za)) (by decide)) (Sz.le (Sn.sz (bK hf.r (by omega):Sn (b^k) 38)) (by decide)) _ rfl)) ?_
 refine Rf.bY aa 0 6 rfl ?_
 refine Rf.aC 7 (Z2R (((((Int.natAbs q.num):Nat):Int)*(((b^k):Nat):Int))/((q.den:Nat):Int)) (((((Int.natAbs q.num):Nat):Int)*(((b^k):Nat):Int))%((q.den:Nat):Int))) (.t [.a [.c 7 0,.c 7 1],.a [.c 7 2,.c 7 3],vI 0]) rfl (Pl.en Tryz.func120) (fun α γ w h=>Wt 7 (Qi _ _ _ ((((Int.natAbs q.num):Nat):Int)*(((b^k):Nat):Int)) ((q.den:Nat):Int) (h.r 6 rfl) (h.r 3 rfl) (Sz.le (Sz.mul (Sn.sz (Sz.sn za)) (Sn.sz (bK hf.r (by omega):Sn (b^k) 38)) (by decide):Sz ((((Int.natAbs q.num):Nat):Int)*(((b^k):Nat):Int)) 47) (by decide)) (Sz.le (Sn.sz ya) (by decide)) (by have:=hD.p;omega) _ _ rfl rfl)) ?_
 refine Rf.HY aa 0 6 rfl ?_
 refine Rf.aQ none fo ?_
 refine Rf.aD aa 18 8 rfl ?_
 refine Rf.Ej ((limbs (Int.natAbs (((((Int.natAbs q.num):Nat):Int)*(((b^k):Nat):Int))%((q.den:Nat):Int)))).length) Tryz.underlying24 rfl rfl rfl rfl rfl rfl rfl rfl (fun w f h=>(Un.jX (iE h.2))) ?_
 refine Rf.dL (vB B1) rfl (fun α γ w h=>(fun X=>Wx hA1 X) w) ?_
 refine Rf.aD aa 18 8 rfl ?_
 refine Rf.ak 8 _ _ rfl (Pl.en Tryz.func122) (fun α γ w h=>gz 8 (Qj _ _ (((((Int.natAbs q.num):Nat):Int)*(((b^k):Nat):Int))%((q.den:Nat):Int)) 1 (h.r 7 rfl).2 (Nat.le_trans (Sz.mod (Sn.sz ya) (by have:=hD.p;omega)) (by decide)) (by decide) (by decide) (shl (((((Int.natAbs q.num):Nat):Int)*(((b^k):Nat):Int))%((q.den:Nat):Int)) 1) rfl)) ?_
 refine Rf.aD aa 18 8 rfl ?_
 refine Rf.ak 9 _ _ rfl (Pl.en Tryz.func121) (fun α γ w h=>aU 9 (aaM _ _ _ (shl (((((Int.natAbs q.num):Nat):Int)*(((b^k):Nat):Int))%((q.den:Nat):Int)) 1) ((q.den:Nat):Int) (h.r 8 rfl) (h.r 3 rfl) _ (hD.m.trans hM1))) ?_
 refine Rf.aD aa 18 8 rfl ?_
 refine Rf.ak 10 _ _ rfl (Pl.en Tryz.func123) (fun α γ w h=>aU 10 (Wz _ _ (Int.natAbs (((((Int.natAbs q.num):Nat):Int)*(((b^k):Nat):Int))/((q.den:Nat):Int))) 0 (iE (h.r 7 rfl).1) (by omega) (by omega) _ rfl)) ?_
 refine Rf.dL (vB O1) rfl (fun α γ w h=>(fun X=>Wy hdn hO2 X) w) ?_
 refine Rf.aD aa 18 8 rfl ?_
 refine Rf.Fb (.a [vB B1,vI M1,vB O1,vB Q1]) [48,52,56,59] rfl rfl rfl rfl rfl (fun _ _=>rfl) (fun α γ X=>by kernel_rfl) ?_
 refine Rf.aD aa 18 8 rfl ?_
 refine Rf.aW (by kernel_rfl) ?_
 refine Rf.aP [4,6,7,8,12,15] [1,2,6,8] [7] rfl ?_
 repeat refine Rf.aO ?_
 refine Rf.bf ?_
 repeat refine Rf.aO ?_
 by_cases hb:((b^p:Nat):Int)≤dg b S (-((k:Nat):Int))
 · refine Rf.iB none fo rfl ?_
   refine Rf.aD aa 9 9 rfl ?_
   refine Rf.ak 11 _ _ rfl (Pl.en Tryz.func45) (fun α γ w h=>dO 11 (bI _ b p p lo hi ((p:Nat):Int) hf.r (by omega) (by omega))) ?_
   refine Rf.ak 12 _ _ rfl (Pl.en Tryz.func44) (fun α γ w h=>aU 12 (jv _ _ _ (Int.natAbs (((((Int.natAbs q.num):Nat):Int)*(((b^k):Nat):Int))/((q.den:Nat):Int))) (b^p) (iE (h.r 7 rfl).1) (h.r 11 rfl) _ rfl)) ?_
   refine Rf.dL (vT) rfl (fun α γ w h=>(fun X=>bS (gW.2 (by have h9:=hb;rw [hD.g] at h9;omega)) X) w) ?_
   refine Rf.aD aa 9 9 rfl ?_
   refine Rf.aW (by kernel_rfl) ?_
   refine Rf.aP [4,6,7,8,12,15,61] [1,2,6,8] [7] rfl ?_
   refine Rf.HX aa 1 0 rfl ?_
   refine Rf.aQ none fo ?_
   refine Rf.aD aa 6 9 rfl ?_
   refine Rf.aW (by kernel_rfl) ?_
   refine Rf.aP [6,7,8,12,15] [2,6,8] [7] rfl ?_
   repeat refine Rf.aO ?_
   exact Rf.aI aa (fun _ _ h=>Pl.dG (Pl.eD h)) rfl rfl (fun α γ w h=>⟨_,by rw [LY hb];rfl,by rw [hD.g];exact (iE (h.r 7 rfl).1),h.ex⟩)
 · by_cases hl:dg b S (-((k:Nat):Int))<((b^(p-1):Nat):Int)
   · refine Rf.iB none fo rfl ?_
     refine Rf.aD aa 9 9 rfl ?_
     refine Rf.ak 11 _ _ rfl (Pl.en Tryz.func45) (fun α γ w h=>dO 11 (bI _ b p p lo hi ((p:Nat):Int) hf.r (by omega) (by omega))) ?_
     refine Rf.ak 12 _ _ rfl (Pl.en Tryz.func44) (fun α γ w h=>aU 12 (jv _ _ _ (Int.natAbs (((((Int.natAbs q.num):Nat):Int)*(((b^k):Nat):Int))/((q.den:Nat):Int))) (b^p) (iE (h.r 7 rfl).1) (h.r 11 rfl) _ rfl)) ?_
     refine Rf.dL (vF) rfl (fun α γ w h=>(fun X=>gJ (fun h=>hb (by have h9:=gW.1 h;rw [hD.g];omega)) X) w) ?_
     refine Rf.aD aa 9 9 rfl ?_
     refine Rf.aW (by kernel_rfl) ?_
     refine Rf.aP [4,6,7,8,12,15,61] [1,2,6,8] [7] rfl ?_
     refine Rf.HX aa 1 0 rfl ?_
     refine Rf.aQ none fo ?_
     refine Rf.aD aa 10 9 rfl ?_
     refine Rf.Be (vI (((p:Nat):Int)-1)) rfl rfl rfl rfl rfl rfl rfl rfl rfl rfl (fun α γ w h=>(fun X=>eH (by omega) X) w) ?_
     refine Rf.ak 13 _ _ rfl (Pl.en Tryz.func45) (fun α γ w h=>dO 13 (bI _ b p (p-1) lo hi (((p:Nat):Int)-1) hf.r (by omega) (by omega))) ?_
     refine Rf.ak 14 _ _ rfl (Pl.en Tryz.func44) (fun α γ w h=>aU 14 (jv _ _ _ (Int.natAbs (((((Int.natAbs q.num):Nat):Int)*(((b^k):Nat):Int))/((q.den:Nat):Int))) (b^(p-1)) (iE (h.r 7 rfl).1) (h.r 13 rfl) _ rfl)) ?_
     refine Rf.dL (vT) rfl (fun α γ w h=>(fun X=>bL (je.2 (by have h9:=hl;rw [hD.g] at h9;omega)) X) w) ?_
     refine Rf.aD aa 10 9 rfl ?_
     refine Rf.aW (by kernel_rfl) ?_
     refine Rf.aP [6,7,8,12,15,73] [2,6,8] [7] rfl ?_
     refine Rf.HX aa 1 0 rfl ?_
     refine Rf.aQ none fo ?_
     refine Rf.aD aa 6 9 rfl ?_
     refine Rf.aW (by kernel_rfl) ?_
     refine Rf.aP [6,7,8,12,15] [2,6,8] [7] rfl ?_
     repeat refine Rf.aO ?_
     exact Rf.aI aa (fun _ _ h=>Pl.dG (Pl.eD h)) rfl rfl (fun α γ w h=>⟨_,by rw [LZ hb hl];rfl,by rw [hD.g];exact (iE (h.r 7 rfl).1),h.ex⟩)
   · refine Rf.iB none fo rfl ?_
     refine Rf.aD aa 9 9 rfl ?_
     refine Rf.ak 11 _ _ rfl (Pl.en Tryz.func45) (fun α γ w h=>dO 11 (bI _ b p p lo hi ((p:Nat):Int) hf.r (by omega) (by omega))) ?_
     refine Rf.ak 12 _ _ rfl (Pl.en Tryz.func44) (fun α γ w h=>aU 12 (jv _ _ _ (Int.natAbs (((((Int.natAbs q.num):Nat):Int)*(((b^k):Nat):Int))/((q.den:Nat):Int))) (b^p) (iE (h.r 7 rfl).1) (h.r 11 rfl) _ rfl)) ?_
     refine Rf.dL (vF) rfl (fun α γ w h=>(fun X=>gJ (fun h=>hb (by have h9:=gW.1 h;rw [hD.g];omega)) X) w) ?_
     refine Rf.aD aa 9 9 rfl ?_
     refine Rf.aW (by kernel_rfl) ?_
     refine Rf.aP [4,6,7,8,12,15,61] [1,2,6,8] [7] rfl ?_
     refine Rf.HX aa 1 0 rfl ?_
     refine Rf.aQ none fo ?_
     refine Rf.aD aa 10 9 rfl ?_
     refine Rf.Be (vI (((p:Nat):Int)-1)) rfl rfl rfl rfl rfl rfl rfl rfl rfl rfl (fun α γ w h=>(fun X=>eH (by omega) X) w) ?_
     refine Rf.ak 13 _ _ rfl (Pl.en Tryz.func45) (fun α γ w h=>dO 13 (bI _ b p (p-1) lo hi (((p:Nat):Int)-1) hf.r (by omega) (by omega))) ?_
     refine Rf.ak 14 _ _ rfl (Pl.en Tryz.func44) (fun α γ w h=>aU 14 (jv _ _ _ (Int.natAbs (((((Int.natAbs q.num):Nat):Int)*(((b^k):Nat):Int))/((q.den:Nat):Int))) (b^(p-1)) (iE (h.r 7 rfl).1) (h.r 13 rfl) _ rfl)) ?_
     refine Rf.dL (vF) rfl (fun α γ w h=>(fun X=>bM (fun h=>hl (by have h9:=je.1 h;rw [hD.g];omega)) X) w) ?_
     refine Rf.aD aa 10 9 rfl ?_
     refine Rf.aW (by kernel_rfl) ?_
     refine Rf.aP [6,7,8,12,15,73] [2,6,8] [7] rfl ?_
     refine Rf.HX aa 2 0 rfl ?_
     refine Rf.aZ ?_
     refine Rf.iB none fo rfl ?_
     refine Rf.aD aa 6 9 rfl ?_
     refine Rf.aW (by kernel_rfl) ?_
     refine Rf.aP [6,7,8] [2] [7] rfl ?_
     exact Rf.aaa aa rfl (fun α γ w h=>⟨_,by rw [Ie hb hl];rfl,by rw [hD.g];exact (iE (h.r 7 rfl).1),h.ex⟩)
theorem qZ (w:World) (va:Value) (q:Rat) (ha:Qn w va q 9 9) (b p:Nat) (lo hi:Int) (hf:fT b p lo hi) (ee:Int) (h1 : -300≤ee) (h2:ee≤300) :
  Calls Tryz.prog 72 #[va,.agg #[.int .i64 ((b:Nat):Int),.int .i64 ((p:Nat):Int),.int .i64 lo,.int .i64 hi],.int .i64 ee] w fun e w'=>∃ u,e = .returned (.tuple #[u,.agg #[.bool (decide (0<rest b (if q<0 then -q else q) ee)),.int .i64 (yN (rest b (if q<0 then -q else q) ee)),.bool (decide (dg b (if q<0 then -q else q) ee%2=1)),.bool (decide (q<0))],.int .i64 (qX b p (if q<0 then -q else q) ee)])∧Un w' u (dg b (if q<0 then -q else q) ee).natAbs∧Pl.Ex w w':=by
 by_cases h0:0≤ee
 · exact Qh w va q ha b p lo hi hf ee h1 h2 h0
 · exact Qk w va q ha b p lo hi hf ee h1 h2 (by omega)
end Go.Proofs.YtgcieamfidoaoaaGreatDoor
