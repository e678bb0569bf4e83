/- Powers of the radix; rationals made. -/
import Derived.Test.YtgcieamfidoaoaaGreatDoorBao
import Derived.Test.YtgcieamfidoaoaaGreatDoorBaq
import Derived.Test.YtgcieamfidoaoaaGreatDoorBar
import Derived.Test.YtgcieamfidoaoaaGreatDoorBau
import Derived.Test.YtgcieamfidoaoaaGreatDoorBan
import Derived.Test.YtgcieamfidoaoaaGreatDoorBal
import Derived.Test.YtgcieamfidoaoaaGreatDoorBaj
set_option linter.all false
set_option maxHeartbeats 8000000
namespace Go.Proofs.YtgcieamfidoaoaaGreatDoor
open Go.RowKit Rf Fm
set_option maxRecDepth 100000
theorem LX {k:Nat} (hk:k<304):Sn (5^k) 38:=Sn.down (bK (b:=10) (k:=k) (K:=38) (.inr rfl) (by omega)) (Nat.pow_le_pow_left (by decide) k)
theorem Ud (w:World) (p k:Nat) (lo hi:Int) (hk:k≤300) :
  Calls Tryz.prog 45 #[.agg #[.int .i64 2,.int .i64 ((p:Nat):Int),.int .i64 lo,.int .i64 hi],.int .i64 ((k:Nat):Int)] w fun e w'=>∃ u,e = .returned u∧Un w' u (2^k)∧Pl.Ex w w':=by
 refine Rf.aA (n:=16) [.a [vI 2,vI ((p:Nat):Int),vI lo,vI hi],vI ((k:Nat):Int)] [] [] Tryz.func45 rfl (by kernel_rfl) rfl rfl trivial ?_
 refine Rf.bu aa 1 0 rfl ?_
 refine Rf.ah (v:=.bool true) (fun X=>aM (by decide) X) rfl ?_
 refine Rf.bY aa 1 0 rfl ?_
 refine Rf.mH (e := 57) (m:=1) [.int .u32 1] 0 (dW 1) rfl rfl rfl (fun _ _=>rfl) (fun α γ X=>by kernel_rfl) rfl (fun N w k=>Un.one (x:=1) k rfl (by omega)) ?_
 refine Rf.ay aa 1 rfl ?_
 refine Rf.aC 1 _ _ rfl (Pl.en Tryz.func88) (fun α γ w h=>dO 1 (Hr _ _ 1 ((k:Nat):Int) (h.r 0 rfl) (by omega) (by omega) (Nat.le_trans (Sn.of (K:=1) (by decide)) (by decide)) (2^k) (by rw [Int.toNat_natCast,Nat.one_mul]))) ?_
 refine Rf.HY aa 0 1 rfl ?_
 exact Rf.aI aa (fun _ _ h=>h) rfl rfl (fun α γ w h=>⟨_,rfl,h.r 1 rfl,h.ex⟩)
theorem P9 (w:World) (p k:Nat) (lo hi:Int) (hk:k≤300) :
  Calls Tryz.prog 45 #[.agg #[.int .i64 10,.int .i64 ((p:Nat):Int),.int .i64 lo,.int .i64 hi],.int .i64 ((k:Nat):Int)] w fun e w'=>∃ u,e = .returned u∧Un w' u (10^k)∧Pl.Ex w w':=by
 refine Rf.aA (n:=16) [.a [vI 10,vI ((p:Nat):Int),vI lo,vI hi],vI ((k:Nat):Int)] [] [] Tryz.func45 rfl (by kernel_rfl) rfl rfl trivial ?_
 refine Rf.bu aa 1 0 rfl ?_
 refine Rf.ah (v:=.bool false) (fun X=>aK (by decide) X) rfl ?_
 refine Rf.bY aa 2 0 rfl ?_
 refine Rf.mH (e := 57) (m:=1) [.int .u32 5] 0 (dW 5) rfl rfl rfl (fun _ _=>rfl) (fun α γ X=>by kernel_rfl) rfl (fun N w k=>Un.one (x:=5) k rfl (by omega)) ?_
 refine Rf.ay aa 1 rfl ?_
 refine Rf.aC 1 _ _ rfl (Pl.en Tryz.func89) (fun α γ w h=>dO 1 (aea 78 (by decide) XV _ _ 5 k (h.r 0 rfl) (by decide) (Nat.le_trans (Sn.of (K:=1) (by decide)) (by decide)) (Nat.le_trans (LX (by omega):Sn (5^k) 38) (by decide)) (by omega) _ rfl)) ?_
 refine Rf.ay aa 1 rfl ?_
 refine Rf.aC 2 _ _ rfl (Pl.en Tryz.func88) (fun α γ w h=>dO 2 (Hr _ _ (5^k) ((k:Nat):Int) (h.r 1 rfl) (by omega) (by omega) (Nat.le_trans (LX (by omega):Sn (5^k) 38) (by decide)) (10^k) (by rw [Int.toNat_natCast,← Nat.mul_pow]))) ?_
 refine Rf.HY aa 0 1 rfl ?_
 exact Rf.aI aa (fun _ _ h=>h) rfl rfl (fun α γ w h=>⟨_,rfl,h.r 2 rfl,h.ex⟩)
theorem bI (w:World) (b p k:Nat) (lo hi z:Int) (hb:b=2∨b=10) (hz:z=((k:Nat):Int)) (hk:k≤300) :
  Calls Tryz.prog 45 #[.agg #[.int .i64 ((b:Nat):Int),.int .i64 ((p:Nat):Int),.int .i64 lo,.int .i64 hi],.int .i64 z] w fun e w'=>∃ u,e = .returned u∧Un w' u (b^k)∧Pl.Ex w w':=by
 subst hz
 rcases hb with rfl | rfl
 · exact Ud w p k lo hi hk
 · exact P9 w p k lo hi hk
theorem Ue (w:World) (va:Value) (n:Nat) (ha:Un w va n) (h1:n=1) (h2:(limbs n).length=1) :
  Calls Tryz.prog 164 #[va] w fun e w'=>e = .returned (.bool (decide (n=1)))∧Pl.Ex w w':=by
 obtain ⟨A,c,rfl,hb⟩:=ha
 have hl:(limbs n).length=1:=h2
 obtain ⟨x,hxs⟩:∃ x,limbs n=[x]:=List.length_eq_one_iff.1 hl
 have hn:n=x:=by have h:=aJ n;rw [hxs] at h;simpa [val] using h.symm
 have hl0:lb (limbs n) 0=n:=by rw [hxs,hn];rfl
 obtain ⟨p,hp1,hp2⟩:=U.at (⟨A,c,rfl,hb⟩:U w (.slice A (limbs n).length c) (limbs n)) (j:=0) (show 0<(limbs n).length by omega)
 rw [hl0] at hp2
 refine Rf.aA (n:=12) [.v (.slice A (limbs n).length c)] [] [] Tryz.func164 rfl (by kernel_rfl) rfl rfl trivial ?_
 refine Rf.bu aa 1 0 rfl ?_
 refine Rf.BO Tryz.underlying24 rfl rfl rfl rfl rfl ?_
 refine Rf.ah (v:=.bool true) (fun X=>aM (by omega) X) rfl ?_
 refine Rf.ay aa 0 rfl ?_
 refine Rf.wu hp1 rfl rfl rfl rfl rfl rfl ?_
 refine Rf.ww hp2 rfl rfl rfl rfl rfl ?_
 refine Rf.ah (v:=.bool true) (fun X=>Pl.xA (Pl.e_t (by omega)) X) rfl ?_
 refine Rf.HY aa 0 0 rfl ?_
 exact Rf.aI aa (fun _ _ h=>h) rfl rfl (fun α γ w h=>⟨by rw [decide_eq_true h1];rfl,h.ex⟩)
theorem Uf (w:World) (va:Value) (n:Nat) (ha:Un w va n) (h1:¬ n=1) (h2:(limbs n).length=1) :
  Calls Tryz.prog 164 #[va] w fun e w'=>e = .returned (.bool (decide (n=1)))∧Pl.Ex w w':=by
 obtain ⟨A,c,rfl,hb⟩:=ha
 have hl:(limbs n).length=1:=h2
 obtain ⟨x,hxs⟩:∃ x,limbs n=[x]:=List.length_eq_one_iff.1 hl
 have hn:n=x:=by have h:=aJ n;rw [hxs] at h;simpa [val] using h.symm
 have hl0:lb (limbs n) 0=n:=by rw [hxs,hn];rfl
 obtain ⟨p,hp1,hp2⟩:=U.at (⟨A,c,rfl,hb⟩:U w (.slice A (limbs n).length c) (limbs n)) (j:=0) (show 0<(limbs n).length by omega)
 rw [hl0] at hp2
 refine Rf.aA (n:=12) [.v (.slice A (limbs n).length c)] [] [] Tryz.func164 rfl (by kernel_rfl) rfl rfl trivial ?_
 refine Rf.bu aa 1 0 rfl ?_
 refine Rf.BO Tryz.underlying24 rfl rfl rfl rfl rfl ?_
 refine Rf.ah (v:=.bool true) (fun X=>aM (by omega) X) rfl ?_
 refine Rf.ay aa 0 rfl ?_
 refine Rf.wu hp1 rfl rfl rfl rfl rfl rfl ?_
 refine Rf.ww hp2 rfl rfl rfl rfl rfl ?_
 refine Rf.ah (v:=.bool false) (fun X=>Pl.xA (Pl.e_f (by omega)) X) rfl ?_
 refine Rf.HY aa 0 0 rfl ?_
 exact Rf.aI aa (fun _ _ h=>h) rfl rfl (fun α γ w h=>⟨by rw [decide_eq_false h1];rfl,h.ex⟩)
theorem Ug (w:World) (va:Value) (n:Nat) (ha:Un w va n) (h1:¬ n=1) (h2:¬ (limbs n).length=1) :
  Calls Tryz.prog 164 #[va] w fun e w'=>e = .returned (.bool (decide (n=1)))∧Pl.Ex w w':=by
 obtain ⟨A,c,rfl,hb⟩:=ha
 refine Rf.aA (n:=12) [.v (.slice A (limbs n).length c)] [] [] Tryz.func164 rfl (by kernel_rfl) rfl rfl trivial ?_
 refine Rf.bu aa 1 0 rfl ?_
 refine Rf.BO Tryz.underlying24 rfl rfl rfl rfl rfl ?_
 refine Rf.ah (v:=.bool false) (fun X=>aK (by omega) X) rfl ?_
 refine Rf.HY aa 0 0 rfl ?_
 exact Rf.aI aa (fun _ _ h=>h) rfl rfl (fun α γ w h=>⟨by rw [decide_eq_false h1];rfl,h.ex⟩)
theorem zR (w:World) (va:Value) (n:Nat) (ha:Un w va n) :
  Calls Tryz.prog 164 #[va] w fun e w'=>e = .returned (.bool (decide (n=1)))∧Pl.Ex w w':=by
 by_cases h1:n=1
 · exact Ue w va n ha h1 (by rw [h1,lG 1 (by decide) (by decide)];rfl)
 · by_cases h2:(limbs n).length=1
   · exact Uf w va n ha h1 h2
   · exact Ug w va n ha h1 h2
theorem zS (w:World) (va:Value) (n:Nat) (ha:Un w va n) (hn:Sn n 70) :
  Calls Tryz.prog 139 #[va] w fun e w'=>∃ u,e = .returned u∧Zn w' u ((n:Nat):Int)∧Pl.Ex w w':=by
 obtain ⟨Aa,ca,rfl⟩:=Un.jX ha
 refine Rf.aA (n:=5) [.c 0 0] [[.slice Aa (limbs n).length ca]] [(0,(dW n).S)] Tryz.func139 rfl (by kernel_rfl) rfl rfl ⟨RS.in ha,trivial⟩ ?_
 refine Rf.bu aa 1 0 rfl ?_
 refine Rf.aC 1 _ _ rfl (Pl.en Tryz.func49) (fun α γ w h=>gz 1 (kL _ false _ _ (h.r 0 rfl) _ (aJ _) _ rfl)) ?_
 refine Rf.HY aa 0 1 rfl ?_
 exact Rf.aI aa (fun _ _ h=>h) rfl rfl (fun α γ w h=>⟨_,rfl,(h.r 1 rfl),h.ex⟩)
theorem Qa (w:World) (va vb:Value) (a:Int) (n L:Nat) (ha:Zn w va a) (hb:Un w vb n) (la:Sz a L) (hL:L≤1000) (hn:Sn n 70) (h0:n≠0) (hd:a%(n:Int)=0) (h1:n=1) :
  Calls Tryz.prog 138 #[va,vb] w fun e w'=>∃ u,e = .returned u∧Zn w' u (a/(n:Int))∧Pl.Ex w w':=by
 obtain ⟨Aa,ca,rfl,ua⟩:=ha
 obtain ⟨Ab,cb,rfl⟩:=Un.jX hb
 refine Rf.aA (n:=18) [.a [.c 0 0,.c 0 1],.c 1 0] [[.bool (decide (a<0)),.slice Aa (limbs (Int.natAbs a)).length ca],[.slice Ab (limbs n).length cb]] [(0,(Wu a).S),(1,(dW n).S)] Tryz.func138 rfl (by kernel_rfl) rfl rfl ⟨RS.in ⟨Aa,ca,rfl,ua⟩,RS.in hb,trivial⟩ ?_
 refine Rf.bu aa 1 0 rfl ?_
 refine Rf.aC 2 _ _ rfl (Pl.en Tryz.func164) (fun α γ w h=>aU 2 (by have h9:=zR _ _ n (h.r 1 rfl);rw [decide_eq_true h1] at h9;exact h9)) ?_
 refine Rf.HY aa 2 2 rfl ?_
 exact Rf.aI aa (fun _ _ h=>h) rfl rfl (fun α γ w h=>⟨_,rfl,by rw [h1,show a/(((1:Nat):Int))=a from Int.ediv_one a];exact (h.r 0 rfl),h.ex⟩)
theorem Qb (w:World) (va vb:Value) (a:Int) (n L:Nat) (ha:Zn w va a) (hb:Un w vb n) (la:Sz a L) (hL:L≤1000) (hn:Sn n 70) (h0:n≠0) (hd:a%(n:Int)=0) (h1:¬ n=1) :
  Calls Tryz.prog 138 #[va,vb] w fun e w'=>∃ u,e = .returned u∧Zn w' u (a/(n:Int))∧Pl.Ex w w':=by
 obtain ⟨Aa,ca,rfl,ua⟩:=ha
 obtain ⟨Ab,cb,rfl⟩:=Un.jX hb
 refine Rf.aA (n:=18) [.a [.c 0 0,.c 0 1],.c 1 0] [[.bool (decide (a<0)),.slice Aa (limbs (Int.natAbs a)).length ca],[.slice Ab (limbs n).length cb]] [(0,(Wu a).S),(1,(dW n).S)] Tryz.func138 rfl (by kernel_rfl) rfl rfl ⟨RS.in ⟨Aa,ca,rfl,ua⟩,RS.in hb,trivial⟩ ?_
 refine Rf.bu aa 1 0 rfl ?_
 refine Rf.aC 2 _ _ rfl (Pl.en Tryz.func164) (fun α γ w h=>aU 2 (by have h9:=zR _ _ n (h.r 1 rfl);rw [decide_eq_false h1] at h9;exact h9)) ?_
 refine Rf.HY aa 2 0 rfl ?_
 refine Rf.aQ none fo ?_
 refine Rf.aD aa 10 2 rfl ?_
 refine Rf.ak 3 _ _ rfl (Pl.en Tryz.func139) (fun α γ w h=>gz 3 (zS _ _ n (h.r 1 rfl) hn)) ?_
 refine Rf.ak 4 (Wu (a/((n:Nat):Int))) (.t [.a [.c 4 0,.c 4 1],vT]) rfl (Pl.en Tryz.func165) (fun α γ w h=>aaG 4 (J5 _ _ _ a ((n:Nat):Int) (h.r 0 rfl) (h.r 3 rfl) (Sz.le la (by omega)) (Sz.le (Sn.sz hn) (by decide)) (by omega) hd _ rfl)) ?_
 refine Rf.aD aa 10 2 rfl ?_
 refine Rf.aW (by kernel_rfl) ?_
 refine Rf.aP [4,5] [1,2] [4] rfl ?_
 refine Rf.HX aa 1 3 rfl ?_
 exact Rf.aI aa (fun _ _ h=>h) rfl rfl (fun α γ w h=>⟨_,rfl,(h.r 4 rfl),h.ex⟩)
theorem xB (w:World) (va vb:Value) (a:Int) (n L:Nat) (ha:Zn w va a) (hb:Un w vb n) (la:Sz a L) (hL:L≤1000) (hn:Sn n 70) (h0:n≠0) (hd:a%(n:Int)=0) :
  Calls Tryz.prog 138 #[va,vb] w fun e w'=>∃ u,e = .returned u∧Zn w' u (a/(n:Int))∧Pl.Ex w w':=by
 by_cases h1:n=1
 · exact Qa w va vb a n L ha hb la hL hn h0 hd h1
 · exact Qb w va vb a n L ha hb la hL hn h0 hd h1
theorem E9 (w:World) (vn vd:Value) (n:Int) (d L:Nat) (hn:Zn w vn n) (hd:Un w vd d) (ln:Sz n L) (hL:L≤70) (ld:Sn d 70) (hd0:d≠0) :
  Calls Tryz.prog 97 #[vn,vd] w fun e w'=>∃ u,e = .returned u∧Qn w' u (Rat.divInt n ((d:Nat):Int)) L 70∧Pl.Ex w w':=by
 obtain ⟨An,cn,rfl,un⟩:=hn
 obtain ⟨Ad,cd,rfl⟩:=Un.jX hd
 obtain ⟨g,hgg⟩:∃ g,Nat.gcd n.natAbs d=g:=⟨_,rfl⟩
 have hg0:g≠0:=by rw [← hgg];exact fun h=>hd0 (Nat.eq_zero_of_gcd_eq_zero_right h)
 have lg:Sn g 70:=by rw [← hgg];exact Sn.down ld (Nat.gcd_le_right _ (by omega))
 have dn:n%(g:Int)=0:=by rw [← hgg];exact Int.emod_eq_zero_of_dvd (Int.dvd_natAbs.1 (Int.natCast_dvd_natCast.2 (Nat.gcd_dvd_left _ _)))
 have dd:((d:Nat):Int)%(g:Int)=0:=by rw [← hgg];exact Int.emod_eq_zero_of_dvd (Int.natCast_dvd_natCast.2 (Nat.gcd_dvd_right _ _))
 have hmk:=mk_pos (n:=n) (d:=(d:Int)) (g:=g) (by omega) hgg (by omega)
 rw [Int.natAbs_natCast] at hmk
 refine Rf.aA (n:=19) [.a [.c 0 0,.c 0 1],.c 1 0] [[.bool (decide (n<0)),.slice An (limbs (Int.natAbs n)).length cn],[.slice Ad (limbs d).length cd]] [(0,(Wu n).S),(1,(dW d).S)] Tryz.func97 rfl (by kernel_rfl) rfl rfl ⟨RS.in ⟨An,cn,rfl,un⟩,RS.in hd,trivial⟩ ?_
 refine Rf.bu aa 1 0 rfl ?_
 refine Rf.aC 2 _ _ rfl (Pl.en Tryz.func137) (fun α γ w h=>dO 2 (Calls.mono (NK _ _ _ (Int.natAbs n) d (Qc (h.r 0 rfl)) (h.r 1 rfl) (Sn.le (Sz.sn ln) (by omega)) ld) fun e w2 ⟨u,h1,h2,h3⟩=>⟨u,h1,(by rw [← hgg];exact h2:Un w2 u g),h3⟩)) ?_
 refine Rf.bY aa 0 2 rfl ?_
 refine Rf.aC 3 _ _ rfl (Pl.en Tryz.func138) (fun α γ w h=>gz 3 (xB _ _ _ n g L (h.r 0 rfl) (h.r 2 rfl) ln (by omega) lg hg0 dn)) ?_
 refine Rf.ay aa 2 rfl ?_
 refine Rf.aC 4 _ _ rfl (Pl.en Tryz.func139) (fun α γ w h=>gz 4 (zS _ _ d (h.r 1 rfl) ld)) ?_
 refine Rf.ay aa 2 rfl ?_
 refine Rf.aC 5 _ _ rfl (Pl.en Tryz.func138) (fun α γ w h=>gz 5 (xB _ _ _ ((d:Nat):Int) g 70 (h.r 4 rfl) (h.r 2 rfl) (Sn.sz ld) (by omega) lg hg0 dd)) ?_
 refine Rf.gU (.c 5 1) rfl rfl rfl (fun _ _=>rfl) (fun α γ X=>by kernel_rfl) ?_
 refine Rf.nQ (.a [.c 3 0,.c 3 1,.c 5 1]) rfl rfl rfl (fun _ _=>rfl) (fun α γ hp X=>Rf.NJ rfl rfl (Rf.ad9 (γ 3 0) (γ 3 1) (γ 5 1) (hp 5 1)) X) ?_
 refine Rf.HY aa 0 2 rfl ?_
 exact Rf.aI aa (fun _ _ h=>h) rfl rfl (fun α γ w h=>⟨_,rfl,aaF (h.r 3 rfl) (Qc (h.r 5 rfl)) hmk.1 hmk.2 (Sz.div ln) (Sn.Ic (Sz.div (Sn.sz ld))),h.ex⟩)
end Go.Proofs.YtgcieamfidoaoaaGreatDoor
/- Formats: right ones; where digits begin. -/
namespace Go.Proofs.YtgcieamfidoaoaaGreatDoor
open Go.RowKit Rf Fm
set_option maxRecDepth 100000
def Px (b p:Nat) (q:Rat):Int:=(match b with | 10=>(((((bJ q.num.natAbs:Nat):Int)-((bJ q.den:Nat):Int))*30103)).tdiv 100000 | _=>((bJ q.num.natAbs:Nat):Int)-((bJ q.den:Nat):Int))-(p:Int)
theorem XW {P:Program} {T:TypeId} {x y:Operand} {a b:Int} (hb:b≠0) (h : -9223372036854775808≤a.tdiv b∧a.tdiv b≤9223372036854775807) (X:World):Pl.Bn P .quo T x y (.int .i64 a) (.int .i64 b) X = .ok (.int .i64 (a.tdiv b)) X:=Pl.aaJ hb (Pl.oC h.1 h.2) X
theorem Qd {P:Program} {T:TypeId} {x y:Operand} {a b:Int} (h : -9223372036854775808≤a*b∧a*b≤9223372036854775807) (X:World):Pl.Bn P .mul T x y (.int .i64 a) (.int .i64 b) X = .ok (.int .i64 (a*b)) X:=Pl.aaK (Pl.oC h.1 h.2) X
theorem qo {n:Nat} {K:Nat} (h:Sn n K):bJ n≤32*K:=cZ (by have:=h.lt;rwa [show (4294967296:Nat)=2^32 by decide,← Nat.pow_mul] at this)
theorem Fa {a:Int} (h : -28800000≤a∧a≤28800000) : -288≤a.tdiv 100000∧a.tdiv 100000≤288:=by
 rcases Int.le_total 0 a with h0 | h0
 · rw [Int.tdiv_eq_ediv_of_nonneg h0];omega
 · obtain ⟨c,rfl⟩:∃ c,a = -c:=⟨-a,by omega⟩
   rw [Int.neg_tdiv,Int.tdiv_eq_ediv_of_nonneg (by omega)];omega
theorem Uh (w:World) (p:Nat) (lo hi:Int) (hf:fT 2 p lo hi) :
  Calls Tryz.prog 13 #[.agg #[.int .i64 2,.int .i64 ((p:Nat):Int),.int .i64 lo,.int .i64 hi]] w fun e w'=>e = .returned (.bool true)∧Pl.Ex w w':=by
 have f1:=hf.p1
 have f2:=hf.ku
 have f3:=hf.l
 have f4:=hf.l1
 have f5:=hf.h1
 refine Rf.aA (n:=38) [.a [vI 2,vI ((p:Nat):Int),vI lo,vI hi]] [] [] Tryz.func13 rfl (by kernel_rfl) rfl rfl trivial ?_
 refine Rf.bu aa 1 0 rfl ?_
 refine Rf.ah (v:=.bool true) (fun X=>aM (by decide) X) rfl ?_
 refine Rf.ay aa 1 rfl ?_
 refine Rf.ah (v:=.bool true) (fun X=>bS (by omega) X) rfl ?_
 refine Rf.ay aa 1 rfl ?_
 refine Rf.ah (v:=.bool true) (fun X=>cO (by omega) X) rfl ?_
 refine Rf.ay aa 1 rfl ?_
 refine Rf.ah (v:=.bool true) (fun X=>cO (by omega) X) rfl ?_
 refine Rf.ay aa 1 rfl ?_
 refine Rf.ah (v:=.bool true) (fun X=>bS (by omega) X) rfl ?_
 refine Rf.ay aa 1 rfl ?_
 refine Rf.ah (v:=.bool true) (fun X=>cO (by omega) X) rfl ?_
 refine Rf.HY aa 0 1 rfl ?_
 exact Rf.aI aa (fun _ _ h=>h) rfl rfl (fun α γ w h=>⟨rfl,h.ex⟩)
theorem Qe (w:World) (p:Nat) (lo hi:Int) (hf:fT 10 p lo hi) :
  Calls Tryz.prog 13 #[.agg #[.int .i64 10,.int .i64 ((p:Nat):Int),.int .i64 lo,.int .i64 hi]] w fun e w'=>e = .returned (.bool true)∧Pl.Ex w w':=by
 have f1:=hf.p1
 have f2:=hf.ku
 have f3:=hf.l
 have f4:=hf.l1
 have f5:=hf.h1
 refine Rf.aA (n:=38) [.a [vI 10,vI ((p:Nat):Int),vI lo,vI hi]] [] [] Tryz.func13 rfl (by kernel_rfl) rfl rfl trivial ?_
 refine Rf.bu aa 1 0 rfl ?_
 refine Rf.ah (v:=.bool false) (fun X=>aK (by decide) X) rfl ?_
 refine Rf.ay aa 1 rfl ?_
 refine Rf.ah (v:=.bool true) (fun X=>aM (by decide) X) rfl ?_
 refine Rf.ay aa 1 rfl ?_
 refine Rf.ah (v:=.bool true) (fun X=>bS (by omega) X) rfl ?_
 refine Rf.ay aa 1 rfl ?_
 refine Rf.ah (v:=.bool true) (fun X=>cO (by omega) X) rfl ?_
 refine Rf.ay aa 1 rfl ?_
 refine Rf.ah (v:=.bool true) (fun X=>cO (by omega) X) rfl ?_
 refine Rf.ay aa 1 rfl ?_
 refine Rf.ah (v:=.bool true) (fun X=>bS (by omega) X) rfl ?_
 refine Rf.ay aa 1 rfl ?_
 refine Rf.ah (v:=.bool true) (fun X=>cO (by omega) X) rfl ?_
 refine Rf.HY aa 0 1 rfl ?_
 exact Rf.aI aa (fun _ _ h=>h) rfl rfl (fun α γ w h=>⟨rfl,h.ex⟩)
theorem ig (w:World) (b p:Nat) (lo hi:Int) (hf:fT b p lo hi) :
  Calls Tryz.prog 13 #[.agg #[.int .i64 ((b:Nat):Int),.int .i64 ((p:Nat):Int),.int .i64 lo,.int .i64 hi]] w fun e w'=>e = .returned (.bool true)∧Pl.Ex w w':=by
 rcases hf.r with rfl | rfl
 · exact Uh w p lo hi hf
 · exact Qe w p lo hi hf
theorem Ui (w:World) (va:Value) (q:Rat) (ha:Qn w va q 9 9) (p:Nat) (lo hi:Int) (hf:fT 2 p lo hi) :
  Calls Tryz.prog 71 #[va,.agg #[.int .i64 2,.int .i64 ((p:Nat):Int),.int .i64 lo,.int .i64 hi]] w fun e w'=>e = .returned (.int .i64 (Px 2 p q))∧Pl.Ex w w':=by
 obtain ⟨Aa,ca,Ba,ba,rfl,ua,ta,za,ya⟩:=ha
 have f1:=hf.p1
 have f2:=hf.ku
 have f3:=hf.l
 have f4:=hf.l1
 have f5:=hf.h1
 have b1:=qo (Sz.sn za)
 have b2:=qo ya
 refine Rf.aA (n:=24) [.a [.c 0 0,.c 0 1,.c 0 2],.a [vI 2,vI ((p:Nat):Int),vI lo,vI hi]] [[.bool (decide (Rat.num q<0)),.slice Aa (limbs (Rat.num q).natAbs).length ca,.slice Ba (limbs (Rat.den q)).length ba]] [(0,(pI q 9 9).S)] Tryz.func71 rfl (by kernel_rfl) rfl rfl ⟨RS.in ⟨Aa,ca,Ba,ba,rfl,ua,ta,za,ya⟩,trivial⟩ ?_
 refine Rf.HX aa 1 0 rfl ?_
 refine Rf.aQ none fo ?_
 refine Rf.aD aa 9 2 rfl ?_
 refine Rf.ak 1 _ _ rfl (Pl.en Tryz.func119) (fun α γ w h=>aU 1 (BK _ _ (Int.natAbs (Rat.num q)) (iW (h.r 0 rfl)).2.1 (Nat.le_trans (Sz.sn za) (by omega)) _ rfl)) ?_
 refine Rf.aD aa 9 2 rfl ?_
 refine Rf.ak 2 _ _ rfl (Pl.en Tryz.func119) (fun α γ w h=>aU 2 (BK _ _ (Rat.den q) (iW (h.r 0 rfl)).2.2.1 (Nat.le_trans ya (by omega)) _ rfl)) ?_
 refine Rf.Be (vI ((((bJ (Int.natAbs (Rat.num q))):Nat):Int)-(((bJ (Rat.den q)):Nat):Int))) rfl rfl rfl rfl rfl rfl rfl rfl rfl rfl (fun α γ w h=>(fun X=>eH (by omega) X) w) ?_
 refine Rf.aD aa 9 2 rfl ?_
 refine Rf.aW (by kernel_rfl) ?_
 refine Rf.aP [3,4,5] [1] [] rfl ?_
 refine Rf.bu aa 0 2 rfl ?_
 refine Rf.ah (v:=.bool false) (fun X=>aK (by decide) X) rfl ?_
 refine Rf.bY aa 2 2 rfl ?_
 refine Rf.ah (v:=.int .i64 ((((((bJ (Int.natAbs (Rat.num q))):Nat):Int)-(((bJ (Rat.den q)):Nat):Int))-(p:Int)))) (fun X=>eH (by omega) X) rfl ?_
 refine Rf.HY aa 0 2 rfl ?_
 exact Rf.aI aa (fun _ _ h=>h) rfl rfl (fun α γ w h=>⟨rfl,h.ex⟩)
theorem Qf (w:World) (va:Value) (q:Rat) (ha:Qn w va q 9 9) (p:Nat) (lo hi:Int) (hf:fT 10 p lo hi) :
  Calls Tryz.prog 71 #[va,.agg #[.int .i64 10,.int .i64 ((p:Nat):Int),.int .i64 lo,.int .i64 hi]] w fun e w'=>e = .returned (.int .i64 (Px 10 p q))∧Pl.Ex w w':=by
 obtain ⟨Aa,ca,Ba,ba,rfl,ua,ta,za,ya⟩:=ha
 have f1:=hf.p1
 have f2:=hf.ku
 have f3:=hf.l
 have f4:=hf.l1
 have f5:=hf.h1
 have b1:=qo (Sz.sn za)
 have b2:=qo ya
 refine Rf.aA (n:=24) [.a [.c 0 0,.c 0 1,.c 0 2],.a [vI 10,vI ((p:Nat):Int),vI lo,vI hi]] [[.bool (decide (Rat.num q<0)),.slice Aa (limbs (Rat.num q).natAbs).length ca,.slice Ba (limbs (Rat.den q)).length ba]] [(0,(pI q 9 9).S)] Tryz.func71 rfl (by kernel_rfl) rfl rfl ⟨RS.in ⟨Aa,ca,Ba,ba,rfl,ua,ta,za,ya⟩,trivial⟩ ?_
 refine Rf.HX aa 1 0 rfl ?_
 refine Rf.aQ none fo ?_
 refine Rf.aD aa 9 2 rfl ?_
 refine Rf.ak 1 _ _ rfl (Pl.en Tryz.func119) (fun α γ w h=>aU 1 (BK _ _ (Int.natAbs (Rat.num q)) (iW (h.r 0 rfl)).2.1 (Nat.le_trans (Sz.sn za) (by omega)) _ rfl)) ?_
 refine Rf.aD aa 9 2 rfl ?_
 refine Rf.ak 2 _ _ rfl (Pl.en Tryz.func119) (fun α γ w h=>aU 2 (BK _ _ (Rat.den q) (iW (h.r 0 rfl)).2.2.1 (Nat.le_trans ya (by omega)) _ rfl)) ?_
 refine Rf.Be (vI ((((bJ (Int.natAbs (Rat.num q))):Nat):Int)-(((bJ (Rat.den q)):Nat):Int))) rfl rfl rfl rfl rfl rfl rfl rfl rfl rfl (fun α γ w h=>(fun X=>eH (by omega) X) w) ?_
 refine Rf.aD aa 9 2 rfl ?_
 refine Rf.aW (by kernel_rfl) ?_
 refine Rf.aP [3,4,5] [1] [] rfl ?_
 refine Rf.bu aa 0 2 rfl ?_
 refine Rf.ah (v:=.bool true) (fun X=>aM (by decide) X) rfl ?_
 refine Rf.bY aa 1 2 rfl ?_
 refine Rf.ah (v:=.int .i64 (((((((bJ (Int.natAbs (Rat.num q))):Nat):Int)-(((bJ (Rat.den q)):Nat):Int)))*30103))) (fun X=>Qd (by omega) X) rfl ?_
 refine Rf.ah (v:=.int .i64 ((Int.tdiv ((((((bJ (Int.natAbs (Rat.num q))):Nat):Int)-(((bJ (Rat.den q)):Nat):Int)))*30103) 100000))) (fun X=>XW (by decide) (by have:=Fa (a:=((((((bJ (Int.natAbs (Rat.num q))):Nat):Int)-(((bJ (Rat.den q)):Nat):Int)))*30103)) (by omega);omega) X) rfl ?_
 refine Rf.bY aa 0 2 rfl ?_
 have b3:=Fa (a:=((((((bJ (Int.natAbs (Rat.num q))):Nat):Int)-(((bJ (Rat.den q)):Nat):Int)))*30103)) (by omega)
 refine Rf.ay aa 2 rfl ?_
 refine Rf.ah (v:=.int .i64 (((Int.tdiv ((((((bJ (Int.natAbs (Rat.num q))):Nat):Int)-(((bJ (Rat.den q)):Nat):Int)))*30103) 100000)-(p:Int)))) (fun X=>eH (by omega) X) rfl ?_
 refine Rf.HY aa 0 2 rfl ?_
 exact Rf.aI aa (fun _ _ h=>h) rfl rfl (fun α γ w h=>⟨rfl,h.ex⟩)
theorem XX {b p:Nat} {q:Rat} (hb:b=2∨b=10) (hp:1≤p) (hp2:p≤17) (h1:Sz q.num 9) (h2:Sn q.den 9) : -1100≤Px b p q∧Px b p q≤287:=by
 have b1:=qo (Sz.sn h1)
 have b2:=qo h2
 rcases hb with rfl | rfl
 · show -1100≤(((bJ q.num.natAbs:Nat):Int)-((bJ q.den:Nat):Int))-(p:Int)∧_≤(287:Int)
   refine ⟨by omega,?_⟩
   show (((bJ q.num.natAbs:Nat):Int)-((bJ q.den:Nat):Int))-(p:Int)≤287
   omega
 · have h3:=Fa (a:=(((bJ q.num.natAbs:Nat):Int)-((bJ q.den:Nat):Int))*30103) (by omega)
   show -1100≤((((bJ q.num.natAbs:Nat):Int)-((bJ q.den:Nat):Int))*30103).tdiv 100000-(p:Int)∧_≤(287:Int)
   refine ⟨by omega,?_⟩
   show ((((bJ q.num.natAbs:Nat):Int)-((bJ q.den:Nat):Int))*30103).tdiv 100000-(p:Int)≤287
   omega
end Go.Proofs.YtgcieamfidoaoaaGreatDoor
/- Where digits begin: what is whole of a size, and where the rest lies. -/
namespace Go.Proofs.YtgcieamfidoaoaaGreatDoor
open Go.RowKit Rf Fm
set_option maxRecDepth 100000
theorem Qg {n:Nat}:((((limbs n).length:Nat):Int)>0)↔n≠0:=by
 have:=@jQ n
 omega
theorem Uj {z:Int} (h:0≤z):((qp z.natAbs 0:Nat):Int)=1↔z%2=1:=by
 unfold qp
 rw [if_neg (by decide),show ((0:Int).toNat)=0 from rfl,Nat.pow_zero,Nat.div_one]
 omega
theorem Uk {P:Program} {T:TypeId} {x y:Operand} (a:Nat) (X:World):Pl.Bn P .eql T x y (.int .u32 (a:Int)) (.int .u32 1) X = .ok (.bool (decide ((a:Int)=1))) X:=by
 by_cases h:(a:Int)=1
 · rw [decide_eq_true h];exact Pl.xA (Pl.e_t h) X
 · rw [decide_eq_false h];exact Pl.xA (Pl.e_f h) X
theorem Wx {P:Program} {T:TypeId} {x y:Operand} {n:Nat} {B:Bool} (h:decide (n≠0)=B) (X:World):Pl.Bn P .gtr T x y (.int .i64 (((limbs n).length:Nat):Int)) (.int .i64 0) X = .ok (.bool B) X:=by
 subst h
 rw [show decide (n≠0)=decide ((((limbs n).length:Nat):Int)>0) from decide_eq_decide.2 Qg.symm]
 exact XY _ _ X
theorem Wy {P:Program} {T:TypeId} {x y:Operand} {z:Int} {B:Bool} (h0:0≤z) (h:decide (z%2=1)=B) (X:World):Pl.Bn P .eql T x y (.int .u32 ((qp z.natAbs 0:Nat):Int)) (.int .u32 1) X = .ok (.bool B) X:=by
 subst h
 rw [show decide (z%2=1)=decide (((qp z.natAbs 0:Nat):Int)=1) from decide_eq_decide.2 (Uj h0).symm]
 exact Uk _ X
theorem Qn.open' {w:World} {v:Value} {q:Rat} {L M:Nat} (h:Qn w v q L M):∃ A c B b,v = .agg #[.bool (decide (q<0)),.slice A (limbs q.num.natAbs).length c,.slice B (limbs q.den).length b]∧Un w (.slice A (limbs q.num.natAbs).length c) q.num.natAbs∧Un w (.slice B (limbs q.den).length b) q.den∧Sz q.num L∧Sn q.den M:=by
 obtain ⟨A,c,B,b,e,u,t,z,y⟩:=h
 refine ⟨A,c,B,b,?_,u,t,z,y⟩
 rw [e,show decide (q.num<0)=decide (q<0) from decide_eq_decide.2 (by rw [← Rat.not_le,← Rat.num_nonneg];omega)]
theorem LY {b p:Nat} {s:Rat} {e:Int} (h:((b^p:Nat):Int)≤dg b s e):qX b p s e=1:=if_pos h
theorem LZ {b p:Nat} {s:Rat} {e:Int} (h:¬ ((b^p:Nat):Int)≤dg b s e) (h2:dg b s e<((b^(p-1):Nat):Int)):qX b p s e = -1:=by unfold qX;rw [if_neg h,if_pos h2]
theorem Ie {b p:Nat} {s:Rat} {e:Int} (h:¬ ((b^p:Nat):Int)≤dg b s e) (h2:¬ dg b s e<((b^(p-1):Nat):Int)):qX b p s e=0:=by unfold qX;rw [if_neg h,if_neg h2]
theorem gW {a b:Int}:bN a b≥0↔b≤a:=by unfold bN;split<;>(try split)<;>omega
theorem je {a b:Int}:bN a b<0↔a<b:=by unfold bN;split<;>(try split)<;>omega
theorem xC {a b:Int}:bN a b=0↔a=b:=by unfold bN;split<;>(try split)<;>omega
structure Dgs (b:Nat) (S:Rat) (e N D:Int):Prop where
 p:0<D
 n:0≤N
 g:dg b S e=N/D
 a:N%D≠0↔0<rest b S e
 m:bN (shl (N%D) 1) D=yN (rest b S e)
theorem Dgs.of {b:Nat} {S:Rat} {e N D:Int} (hn:0≤N) (hD:0<D) (hx:S*bp b (-e)=(N:Rat)/(D:Rat)):Dgs b S e N D:=by
 have h1:=Int.emod_nonneg N (show D≠0 by omega)
 refine ⟨hD,hn,Bg hD hx,by rw [← BP hD hx];omega,?_⟩
 rw [← Ul hD hx]
 unfold bN
 rw [show shl (N%D) 1=2*(N%D) by show N%D*2^1=_;omega]
theorem Qh (w:World) (va:Value) (q:Rat) (ha:Qn w va q 9 9) (b p:Nat) (lo hi:Int) (hf:fT b p lo hi) (ee:Int) (h1 : -300≤ee) (h2:ee≤300) (h0:0≤ee) :
  Calls Tryz.prog 72 #[va,.agg #[.int .i64 ((b:Nat):Int),.int .i64 ((p:Nat):Int),.int .i64 lo,.int .i64 hi],.int .i64 ee] w fun e w'=>∃ u,e = .returned (.tuple #[u,.agg #[.bool (decide (0<rest b (if q<0 then -q else q) ee)),.int .i64 (yN (rest b (if q<0 then -q else q) ee)),.bool (decide (dg b (if q<0 then -q else q) ee%2=1)),.bool (decide (q<0))],.int .i64 (qX b p (if q<0 then -q else q) ee)])∧Un w' u (dg b (if q<0 then -q else q) ee).natAbs∧Pl.Ex w w':=by
 obtain ⟨Aa,ca,Ba,ba,rfl,ua,ta,za,ya⟩:=ha.open'
 have f1:=hf.p1
 have f2:=hf.ku
 have f3:=hf.l
 have f4:=hf.l1
 have f5:=hf.h1
 obtain ⟨S,hS⟩:∃ S,(if q<0 then -q else q)=S:=⟨_,rfl⟩
 rw [hS]
 have hfr:=hS.symm.trans (xD q)
 have hdp:(0:Int)<((q.den:Nat):Int):=by have:=q.den_pos;omega
 obtain ⟨k,rfl⟩:∃ k:Nat,ee=(k:Int):=⟨ee.toNat,by omega⟩
 have hmx:max (k:Int) (-(k:Int))=(k:Int):=by omega
 have hsc:=BQ hf.b2 hdp hfr h0
 rw [show ((k:Int)).toNat=k by omega] at hsc
 have hD:=Dgs.of (by omega) hsc.2 hsc.1
 obtain ⟨B1,hB1⟩:∃ B,decide (0<rest b S ((k:Nat):Int))=B:=⟨_,rfl⟩
 obtain ⟨O1,hO1⟩:∃ B,decide (dg b S ((k:Nat):Int)%2=1)=B:=⟨_,rfl⟩
 obtain ⟨M1,hM1⟩:∃ B,yN (rest b S ((k:Nat):Int))=B:=⟨_,rfl⟩
 obtain ⟨Q1,Pv⟩:∃ B,decide (q<0)=B:=⟨_,rfl⟩
 rw [hB1,hO1,hM1,Pv]
 have hdn:0≤((Int.natAbs q.num:Nat):Int)/(((q.den:Nat):Int)*((b^k:Nat):Int)):=Int.ediv_nonneg hD.n (Int.le_of_lt hD.p)
 have hA1:decide (Int.natAbs (((Int.natAbs q.num:Nat):Int)%(((q.den:Nat):Int)*((b^k:Nat):Int)))≠0)=B1:=by rw [← hB1];exact decide_eq_decide.2 (by rw [← hD.a,Ne,Int.natAbs_eq_zero])
 have hO2:decide ((((Int.natAbs q.num:Nat):Int)/(((q.den:Nat):Int)*((b^k:Nat):Int)))%2=1)=O1:=by rw [← hO1,hD.g]
 refine Rf.aA (n:=89) [.a [vB Q1,.c 0 0,.c 1 0],.a [vI ((b:Nat):Int),vI ((p:Nat):Int),vI lo,vI hi],vI ((k:Nat):Int)] [[.slice Aa (limbs (Int.natAbs q.num)).length ca],[.slice Ba (limbs q.den).length ba]] [(0,(dW (Int.natAbs q.num)).S),(1,(dW q.den).S)] Tryz.func72 rfl (by kernel_rfl) rfl rfl ⟨RS.in ua,RS.in ta,trivial⟩ ?_
 refine Rf.HX aa 1 0 rfl ?_
 refine Rf.aQ none fo ?_
 refine Rf.aD aa 11 3 rfl ?_
 refine Rf.ak 2 _ _ rfl (Pl.en Tryz.func49) (fun α γ w h=>gz 2 (kL _ false _ (limbs (Int.natAbs q.num)) (h.r 0 rfl) _ (aJ _) (((Int.natAbs q.num):Nat):Int) rfl)) ?_
 refine Rf.aD aa 11 3 rfl ?_
 refine Rf.ak 3 _ _ rfl (Pl.en Tryz.func49) (fun α γ w h=>gz 3 (kL _ false _ (limbs q.den) (h.r 1 rfl) _ (aJ _) ((q.den:Nat):Int) rfl)) ?_
 refine Rf.aD aa 11 3 rfl ?_
 refine Rf.aW (by kernel_rfl) ?_
 refine Rf.aP [2,3,4,6,7,8,9,10] [0,1,2,3,4] [0,1,2,3] rfl ?_
 refine Rf.bu aa 0 5 rfl ?_
 refine Rf.aV (.int .i64 (-((k:Nat):Int))) rfl (fun X=>qY (by omega) X) ?_
 refine Rf.Wv (c:=((k:Nat):Int)) hmx rfl rfl rfl rfl rfl rfl ?_
 refine Rf.aC 4 _ _ rfl (Pl.en Tryz.func45) (fun α γ w h=>dO 4 (bI _ b p k lo hi ((k:Nat):Int) hf.r (by omega) (by omega))) ?_
 refine Rf.aC 5 _ _ rfl (Pl.en Tryz.func49) (fun α γ w h=>gz 5 (kL _ false _ (limbs (b^k)) (h.r 4 rfl) _ (aJ _) (((b^k):Nat):Int) rfl)) ?_
 refine Rf.bY aa 0 5 rfl ?_
 refine Rf.ah (v:=.bool true) (fun X=>bS (by omega) X) rfl ?_
 refine Rf.bY aa 1 6 rfl ?_
 refine Rf.aC 6 _ _ rfl (Pl.en Tryz.func51) (fun α γ w h=>gz 6 (Um _ _ _ ((q.den:Nat):Int) (((b^k):Nat):Int) (h.r 3 rfl) (h.r 5 rfl) (Sz.le (Sn.sz ya) (by decide)) (Sz.le (Sn.sz (bK hf.r (by omega):Sn (b^k) 38)) (by decide)) _ rfl)) ?_
 refine Rf.bY aa 0 6 rfl ?_
 refine Rf.aC 7 (Z2R ((((Int.natAbs q.num):Nat):Int)/(((q.den:Nat):Int)*(((b^k):Nat):Int))) ((((Int.natAbs q.num):Nat):Int)%(((q.den:Nat):Int)*(((b^k):Nat):Int)))) (.t [.a [.c 7 0,.c 7 1],.a [.c 7 2,.c 7 3],vI 0]) rfl (Pl.en Tryz.func120) (fun α γ w h=>Wt 7 (Qi _ _ _ (((Int.natAbs q.num):Nat):Int) (((q.den:Nat):Int)*(((b^k):Nat):Int)) (h.r 2 rfl) (h.r 6 rfl) (Sz.le (Sn.sz (Sz.sn za)) (by decide)) (Sz.le (Sz.mul (Sn.sz ya) (Sn.sz (bK hf.r (by omega):Sn (b^k) 38)) (by decide):Sz (((q.den:Nat):Int)*(((b^k):Nat):Int)) 47) (by decide)) (by have:=hD.p;omega) _ _ rfl rfl)) ?_
 refine Rf.HY aa 0 6 rfl ?_
 refine Rf.aQ none fo ?_
 refine Rf.aD aa 18 8 rfl ?_
 refine Rf.Ej ((limbs (Int.natAbs ((((Int.natAbs q.num):Nat):Int)%(((q.den:Nat):Int)*(((b^k):Nat):Int))))).length) Tryz.underlying24 rfl rfl rfl rfl rfl rfl rfl rfl (fun w f h=>(Un.jX (iE h.2))) ?_
 refine Rf.dL (vB B1) rfl (fun α γ w h=>(fun X=>Wx hA1 X) w) ?_
 refine Rf.aD aa 18 8 rfl ?_
 refine Rf.ak 8 _ _ rfl (Pl.en Tryz.func122) (fun α γ w h=>gz 8 (Qj _ _ ((((Int.natAbs q.num):Nat):Int)%(((q.den:Nat):Int)*(((b^k):Nat):Int))) 1 (h.r 7 rfl).2 (Nat.le_trans (Sz.mod (Sz.mul (Sn.sz ya) (Sn.sz (bK hf.r (by omega):Sn (b^k) 38)) (by decide):Sz (((q.den:Nat):Int)*(((b^k):Nat):Int)) 47) (by have:=hD.p;omega)) (by decide)) (by decide) (by decide) (shl ((((Int.natAbs q.num):Nat):Int)%(((q.den:Nat):Int)*(((b^k):Nat):Int))) 1) rfl)) ?_
 refine Rf.aD aa 18 8 rfl ?_
 refine Rf.ak 9 _ _ rfl (Pl.en Tryz.func121) (fun α γ w h=>aU 9 (aaM _ _ _ (shl ((((Int.natAbs q.num):Nat):Int)%(((q.den:Nat):Int)*(((b^k):Nat):Int))) 1) (((q.den:Nat):Int)*(((b^k):Nat):Int)) (h.r 8 rfl) (h.r 6 rfl) _ (hD.m.trans hM1))) ?_
 refine Rf.aD aa 18 8 rfl ?_
 refine Rf.ak 10 _ _ rfl (Pl.en Tryz.func123) (fun α γ w h=>aU 10 (Wz _ _ (Int.natAbs ((((Int.natAbs q.num):Nat):Int)/(((q.den:Nat):Int)*(((b^k):Nat):Int)))) 0 (iE (h.r 7 rfl).1) (by omega) (by omega) _ rfl)) ?_
 refine Rf.dL (vB O1) rfl (fun α γ w h=>(fun X=>Wy hdn hO2 X) w) ?_
 refine Rf.aD aa 18 8 rfl ?_
 refine Rf.Fb (.a [vB B1,vI M1,vB O1,vB Q1]) [48,52,56,59] rfl rfl rfl rfl rfl (fun _ _=>rfl) (fun α γ X=>by kernel_rfl) ?_
 refine Rf.aD aa 18 8 rfl ?_
 refine Rf.aW (by kernel_rfl) ?_
 refine Rf.aP [4,6,7,8,12,15] [1,2,6,8] [7] rfl ?_
 repeat refine Rf.aO ?_
 refine Rf.bf ?_
 repeat refine Rf.aO ?_
 by_cases hb:((b^p:Nat):Int)≤dg b S ((k:Nat):Int)
 · refine Rf.iB none fo rfl ?_
   refine Rf.aD aa 9 9 rfl ?_
   refine Rf.ak 11 _ _ rfl (Pl.en Tryz.func45) (fun α γ w h=>dO 11 (bI _ b p p lo hi ((p:Nat):Int) hf.r (by omega) (by omega))) ?_
   refine Rf.ak 12 _ _ rfl (Pl.en Tryz.func44) (fun α γ w h=>aU 12 (jv _ _ _ (Int.natAbs ((((Int.natAbs q.num):Nat):Int)/(((q.den:Nat):Int)*(((b^k):Nat):Int)))) (b^p) (iE (h.r 7 rfl).1) (h.r 11 rfl) _ rfl)) ?_
   refine Rf.dL (vT) rfl (fun α γ w h=>(fun X=>bS (gW.2 (by have h9:=hb;rw [hD.g] at h9;omega)) X) w) ?_
   refine Rf.aD aa 9 9 rfl ?_
   refine Rf.aW (by kernel_rfl) ?_
   refine Rf.aP [4,6,7,8,12,15,61] [1,2,6,8] [7] rfl ?_
   refine Rf.HX aa 1 0 rfl ?_
   refine Rf.aQ none fo ?_
   refine Rf.aD aa 6 9 rfl ?_
   refine Rf.aW (by kernel_rfl) ?_
   refine Rf.aP [6,7,8,12,15] [2,6,8] [7] rfl ?_
   repeat refine Rf.aO ?_
   exact Rf.aI aa (fun _ _ h=>Pl.dG (Pl.eD h)) rfl rfl (fun α γ w h=>⟨_,by rw [LY hb];rfl,by rw [hD.g];exact (iE (h.r 7 rfl).1),h.ex⟩)
 · by_cases hl:dg b S ((k:Nat):Int)<((b^(p-1):Nat):Int)
   · refine Rf.iB none fo rfl ?_
     refine Rf.aD aa 9 9 rfl ?_
     refine Rf.ak 11 _ _ rfl (Pl.en Tryz.func45) (fun α γ w h=>dO 11 (bI _ b p p lo hi ((p:Nat):Int) hf.r (by omega) (by omega))) ?_
     refine Rf.ak 12 _ _ rfl (Pl.en Tryz.func44) (fun α γ w h=>aU 12 (jv _ _ _ (Int.natAbs ((((Int.natAbs q.num):Nat):Int)/(((q.den:Nat):Int)*(((b^k):Nat):Int)))) (b^p) (iE (h.r 7 rfl).1) (h.r 11 rfl) _ rfl)) ?_
     refine Rf.dL (vF) rfl (fun α γ w h=>(fun X=>gJ (fun h=>hb (by have h9:=gW.1 h;rw [hD.g];omega)) X) w) ?_
     refine Rf.aD aa 9 9 rfl ?_
     refine Rf.aW (by kernel_rfl) ?_
     refine Rf.aP [4,6,7,8,12,15,61] [1,2,6,8] [7] rfl ?_
     refine Rf.HX aa 1 0 rfl ?_
     refine Rf.aQ none fo ?_
     refine Rf.aD aa 10 9 rfl ?_
     refine Rf.Be (vI (((p:Nat):Int)-1)) rfl rfl rfl rfl rfl rfl rfl rfl rfl rfl (fun α γ w h=>(fun X=>eH (by omega) X) w) ?_
     refine Rf.ak 13 _ _ rfl (Pl.en Tryz.func45) (fun α γ w h=>dO 13 (bI _ b p (p-1) lo hi (((p:Nat):Int)-1) hf.r (by omega) (by omega))) ?_
     refine Rf.ak 14 _ _ rfl (Pl.en Tryz.func44) (fun α γ w h=>aU 14 (jv _ _ _ (Int.natAbs ((((Int.natAbs q.num):Nat):Int)/(((q.den:Nat):Int)*(((b^k):Nat):Int)))) (b^(p-1)) (iE (h.r 7 rfl).1) (h.r 13 rfl) _ rfl)) ?_
     refine Rf.dL (vT) rfl (fun α γ w h=>(fun X=>bL (je.2 (by have h9:=hl;rw [hD.g] at h9;omega)) X) w) ?_
     refine Rf.aD aa 10 9 rfl ?_
     refine Rf.aW (by kernel_rfl) ?_
     refine Rf.aP [6,7,8,12,15,73] [2,6,8] [7] rfl ?_
     refine Rf.HX aa 1 0 rfl ?_
     refine Rf.aQ none fo ?_
     refine Rf.aD aa 6 9 rfl ?_
     refine Rf.aW (by kernel_rfl) ?_
     refine Rf.aP [6,7,8,12,15] [2,6,8] [7] rfl ?_
     repeat refine Rf.aO ?_
     exact Rf.aI aa (fun _ _ h=>Pl.dG (Pl.eD h)) rfl rfl (fun α γ w h=>⟨_,by rw [LZ hb hl];rfl,by rw [hD.g];exact (iE (h.r 7 rfl).1),h.ex⟩)
   · refine Rf.iB none fo rfl ?_
     refine Rf.aD aa 9 9 rfl ?_
     refine Rf.ak 11 _ _ rfl (Pl.en Tryz.func45) (fun α γ w h=>dO 11 (bI _ b p p lo hi ((p:Nat):Int) hf.r (by omega) (by omega))) ?_
     refine Rf.ak 12 _ _ rfl (Pl.en Tryz.func44) (fun α γ w h=>aU 12 (jv _ _ _ (Int.natAbs ((((Int.natAbs q.num):Nat):Int)/(((q.den:Nat):Int)*(((b^k):Nat):Int)))) (b^p) (iE (h.r 7 rfl).1) (h.r 11 rfl) _ rfl)) ?_
     refine Rf.dL (vF) rfl (fun α γ w h=>(fun X=>gJ (fun h=>hb (by have h9:=gW.1 h;rw [hD.g];omega)) X) w) ?_
     refine Rf.aD aa 9 9 rfl ?_
     refine Rf.aW (by kernel_rfl) ?_
     refine Rf.aP [4,6,7,8,12,15,61] [1,2,6,8] [7] rfl ?_
     refine Rf.HX aa 1 0 rfl ?_
     refine Rf.aQ none fo ?_
     refine Rf.aD aa 10 9 rfl ?_
     refine Rf.Be (vI (((p:Nat):Int)-1)) rfl rfl rfl rfl rfl rfl rfl rfl rfl rfl (fun α γ w h=>(fun X=>eH (by omega) X) w) ?_
     refine Rf.ak 13 _ _ rfl (Pl.en Tryz.func45) (fun α γ w h=>dO 13 (bI _ b p (p-1) lo hi (((p:Nat):Int)-1) hf.r (by omega) (by omega))) ?_
     refine Rf.ak 14 _ _ rfl (Pl.en Tryz.func44) (fun α γ w h=>aU 14 (jv _ _ _ (Int.natAbs ((((Int.natAbs q.num):Nat):Int)/(((q.den:Nat):Int)*(((b^k):Nat):Int)))) (b^(p-1)) (iE (h.r 7 rfl).1) (h.r 13 rfl) _ rfl)) ?_
     refine Rf.dL (vF) rfl (fun α γ w h=>(fun X=>bM (fun h=>hl (by have h9:=je.1 h;rw [hD.g];omega)) X) w) ?_
     refine Rf.aD aa 10 9 rfl ?_
     refine Rf.aW (by kernel_rfl) ?_
     refine Rf.aP [6,7,8,12,15,73] [2,6,8] [7] rfl ?_
     refine Rf.HX aa 2 0 rfl ?_
     refine Rf.aZ ?_
     refine Rf.iB none fo rfl ?_
     refine Rf.aD aa 6 9 rfl ?_
     refine Rf.aW (by kernel_rfl) ?_
     refine Rf.aP [6,7,8] [2] [7] rfl ?_
     repeat refine Rf.aO ?_
     exact Rf.aI aa (fun _ _ h=>h) rfl rfl (fun α γ w h=>⟨_,by rw [Ie hb hl];rfl,by rw [hD.g];exact (iE (h.r 7 rfl).1),h.ex⟩)
theorem Qk (w:World) (va:Value) (q:Rat) (ha:Qn w va q 9 9) (b p:Nat) (lo hi:Int) (hf:fT b p lo hi) (ee:Int) (h1 : -300≤ee) (h2:ee≤300) (h0:ee<0) :
  Calls Tryz.prog 72 #[va,.agg #[.int .i64 ((b:Nat):Int),.int .i64 ((p:Nat):Int),.int .i64 lo,.int .i64 hi],.int .i64 ee] w fun e w'=>∃ u,e = .returned (.tuple #[u,.agg #[.bool (decide (0<rest b (if q<0 then -q else q) ee)),.int .i64 (yN (rest b (if q<0 then -q else q) ee)),.bool (decide (dg b (if q<0 then -q else q) ee%2=1)),.bool (decide (q<0))],.int .i64 (qX b p (if q<0 then -q else q) ee)])∧Un w' u (dg b (if q<0 then -q else q) ee).natAbs∧Pl.Ex w w':=by
 obtain ⟨Aa,ca,Ba,ba,rfl,ua,ta,za,ya⟩:=ha.open'
 have f1:=hf.p1
 have f2:=hf.ku
 have f3:=hf.l
 have f4:=hf.l1
 have f5:=hf.h1
 obtain ⟨S,hS⟩:∃ S,(if q<0 then -q else q)=S:=⟨_,rfl⟩
 rw [hS]
 have hfr:=hS.symm.trans (xD q)
 have hdp:(0:Int)<((q.den:Nat):Int):=by have:=q.den_pos;omega
 obtain ⟨k,rfl⟩:∃ k:Nat,ee = -(k:Int):=⟨(-ee).toNat,by omega⟩
 have hmx:max (-(k:Int)) (- -(k:Int))=(k:Int):=by omega
 have hsc:=BR (b:=b) hfr h0
 rw [show (- -(k:Int)).toNat=k by omega] at hsc
 have hD:=Dgs.of (Int.mul_nonneg (by omega) (by omega)) hdp hsc
 obtain ⟨B1,hB1⟩:∃ B,decide (0<rest b S (-((k:Nat):Int)))=B:=⟨_,rfl⟩
 obtain ⟨O1,hO1⟩:∃ B,decide (dg b S (-((k:Nat):Int))%2=1)=B:=⟨_,rfl⟩
 obtain ⟨M1,hM1⟩:∃ B,yN (rest b S (-((k:Nat):Int)))=B:=⟨_,rfl⟩
 obtain ⟨Q1,Pv⟩:∃ B,decide (q<0)=B:=⟨_,rfl⟩
 rw [hB1,hO1,hM1,Pv]
 have hdn:0≤(((Int.natAbs q.num:Nat):Int)*((b^k:Nat):Int))/((q.den:Nat):Int):=Int.ediv_nonneg hD.n (Int.le_of_lt hD.p)
 have hA1:decide (Int.natAbs ((((Int.natAbs q.num:Nat):Int)*((b^k:Nat):Int))%((q.den:Nat):Int))≠0)=B1:=by rw [← hB1];exact decide_eq_decide.2 (by rw [← hD.a,Ne,Int.natAbs_eq_zero])
 have hO2:decide (((((Int.natAbs q.num:Nat):Int)*((b^k:Nat):Int))/((q.den:Nat):Int))%2=1)=O1:=by rw [← hO1,hD.g]
 refine Rf.aA (n:=89) [.a [vB Q1,.c 0 0,.c 1 0],.a [vI ((b:Nat):Int),vI ((p:Nat):Int),vI lo,vI hi],vI (-((k:Nat):Int))] [[.slice Aa (limbs (Int.natAbs q.num)).length ca],[.slice Ba (limbs q.den).length ba]] [(0,(dW (Int.natAbs q.num)).S),(1,(dW q.den).S)] Tryz.func72 rfl (by kernel_rfl) rfl rfl ⟨RS.in ua,RS.in ta,trivial⟩ ?_
 refine Rf.HX aa 1 0 rfl ?_
 refine Rf.aQ none fo ?_
 refine Rf.aD aa 11 3 rfl ?_
 refine Rf.ak 2 _ _ rfl (Pl.en Tryz.func49) (fun α γ w h=>gz 2 (kL _ false _ (limbs (Int.natAbs q.num)) (h.r 0 rfl) _ (aJ _) (((Int.natAbs q.num):Nat):Int) rfl)) ?_
 refine Rf.aD aa 11 3 rfl ?_
 refine Rf.ak 3 _ _ rfl (Pl.en Tryz.func49) (fun α γ w h=>gz 3 (kL _ false _ (limbs q.den) (h.r 1 rfl) _ (aJ _) ((q.den:Nat):Int) rfl)) ?_
 refine Rf.aD aa 11 3 rfl ?_
 refine Rf.aW (by kernel_rfl) ?_
 refine Rf.aP [2,3,4,6,7,8,9,10] [0,1,2,3,4] [0,1,2,3] rfl ?_
 refine Rf.bu aa 0 5 rfl ?_
 refine Rf.aV (.int .i64 (- -((k:Nat):Int))) rfl (fun X=>qY (by omega) X) ?_
 refine Rf.Wv (c:=((k:Nat):Int)) hmx rfl rfl rfl rfl rfl rfl ?_
 refine Rf.aC 4 _ _ rfl (Pl.en Tryz.func45) (fun α γ w h=>dO 4 (bI _ b p k lo hi ((k:Nat):Int) hf.r (by omega) (by omega))) ?_
 refine Rf.aC 5 _ _ rfl (Pl.en Tryz.func49) (fun α γ w h=>gz 5 (kL _ false _ (limbs (b^k)) (h.r 4 rfl) _ (aJ _) (((b^k):Nat):Int) rfl)) ?_
 refine Rf.bY aa 0 5 rfl ?_
 refine Rf.ah (v:=.bool false) (fun X=>gJ (by omega) X) rfl ?_
 refine Rf.bY aa 1 6 rfl ?_
 refine Rf.aC 6 _ _ rfl (Pl.en Tryz.func51) (fun α γ w h=>gz 6 (Um _ _ _ (((Int.natAbs q.num):Nat):Int) (((b^k):Nat):Int) (h.r 2 rfl) (h.r 5 rfl) (Sz.le (Sn.sz (Sz.sn za)) (by decide)) (Sz.le (Sn.sz (bK hf.r (by omega):Sn (b^k) 38)) (by decide)) _ rfl)) ?_
 refine Rf.bY aa 0 6 rfl ?_
 refine Rf.aC 7 (Z2R (((((Int.natAbs q.num):Nat):Int)*(((b^k):Nat):Int))/((q.den:Nat):Int)) (((((Int.natAbs q.num):Nat):Int)*(((b^k):Nat):Int))%((q.den:Nat):Int))) (.t [.a [.c 7 0,.c 7 1],.a [.c 7 2,.c 7 3],vI 0]) rfl (Pl.en Tryz.func120) (fun α γ w h=>Wt 7 (Qi _ _ _ ((((Int.natAbs q.num):Nat):Int)*(((b^k):Nat):Int)) ((q.den:Nat):Int) (h.r 6 rfl) (h.r 3 rfl) (Sz.le (Sz.mul (Sn.sz (Sz.sn za)) (Sn.sz (bK hf.r (by omega):Sn (b^k) 38)) (by decide):Sz ((((Int.natAbs q.num):Nat):Int)*(((b^k):Nat):Int)) 47) (by decide)) (Sz.le (Sn.sz ya) (by decide)) (by have:=hD.p;omega) _ _ rfl rfl)) ?_
 refine Rf.HY aa 0 6 rfl ?_
 refine Rf.aQ none fo ?_
 refine Rf.aD aa 18 8 rfl ?_
 refine Rf.Ej ((limbs (Int.natAbs (((((Int.natAbs q.num):Nat):Int)*(((b^k):Nat):Int))%((q.den:Nat):Int)))).length) Tryz.underlying24 rfl rfl rfl rfl rfl rfl rfl rfl (fun w f h=>(Un.jX (iE h.2))) ?_
 refine Rf.dL (vB B1) rfl (fun α γ w h=>(fun X=>Wx hA1 X) w) ?_
 refine Rf.aD aa 18 8 rfl ?_
 refine Rf.ak 8 _ _ rfl (Pl.en Tryz.func122) (fun α γ w h=>gz 8 (Qj _ _ (((((Int.natAbs q.num):Nat):Int)*(((b^k):Nat):Int))%((q.den:Nat):Int)) 1 (h.r 7 rfl).2 (Nat.le_trans (Sz.mod (Sn.sz ya) (by have:=hD.p;omega)) (by decide)) (by decide) (by decide) (shl (((((Int.natAbs q.num):Nat):Int)*(((b^k):Nat):Int))%((q.den:Nat):Int)) 1) rfl)) ?_
 refine Rf.aD aa 18 8 rfl ?_
 refine Rf.ak 9 _ _ rfl (Pl.en Tryz.func121) (fun α γ w h=>aU 9 (aaM _ _ _ (shl (((((Int.natAbs q.num):Nat):Int)*(((b^k):Nat):Int))%((q.den:Nat):Int)) 1) ((q.den:Nat):Int) (h.r 8 rfl) (h.r 3 rfl) _ (hD.m.trans hM1))) ?_
 refine Rf.aD aa 18 8 rfl ?_
 refine Rf.ak 10 _ _ rfl (Pl.en Tryz.func123) (fun α γ w h=>aU 10 (Wz _ _ (Int.natAbs (((((Int.natAbs q.num):Nat):Int)*(((b^k):Nat):Int))/((q.den:Nat):Int))) 0 (iE (h.r 7 rfl).1) (by omega) (by omega) _ rfl)) ?_
 refine Rf.dL (vB O1) rfl (fun α γ w h=>(fun X=>Wy hdn hO2 X) w) ?_
 refine Rf.aD aa 18 8 rfl ?_
 refine Rf.Fb (.a [vB B1,vI M1,vB O1,vB Q1]) [48,52,56,59] rfl rfl rfl rfl rfl (fun _ _=>rfl) (fun α γ X=>by kernel_rfl) ?_
 refine Rf.aD aa 18 8 rfl ?_
 refine Rf.aW (by kernel_rfl) ?_
 refine Rf.aP [4,6,7,8,12,15] [1,2,6,8] [7] rfl ?_
 repeat refine Rf.aO ?_
 refine Rf.bf ?_
 repeat refine Rf.aO ?_
 by_cases hb:((b^p:Nat):Int)≤dg b S (-((k:Nat):Int))
 · refine Rf.iB none fo rfl ?_
   refine Rf.aD aa 9 9 rfl ?_
   refine Rf.ak 11 _ _ rfl (Pl.en Tryz.func45) (fun α γ w h=>dO 11 (bI _ b p p lo hi ((p:Nat):Int) hf.r (by omega) (by omega))) ?_
   refine Rf.ak 12 _ _ rfl (Pl.en Tryz.func44) (fun α γ w h=>aU 12 (jv _ _ _ (Int.natAbs (((((Int.natAbs q.num):Nat):Int)*(((b^k):Nat):Int))/((q.den:Nat):Int))) (b^p) (iE (h.r 7 rfl).1) (h.r 11 rfl) _ rfl)) ?_
   refine Rf.dL (vT) rfl (fun α γ w h=>(fun X=>bS (gW.2 (by have h9:=hb;rw [hD.g] at h9;omega)) X) w) ?_
   refine Rf.aD aa 9 9 rfl ?_
   refine Rf.aW (by kernel_rfl) ?_
   refine Rf.aP [4,6,7,8,12,15,61] [1,2,6,8] [7] rfl ?_
   refine Rf.HX aa 1 0 rfl ?_
   refine Rf.aQ none fo ?_
   refine Rf.aD aa 6 9 rfl ?_
   refine Rf.aW (by kernel_rfl) ?_
   refine Rf.aP [6,7,8,12,15] [2,6,8] [7] rfl ?_
   repeat refine Rf.aO ?_
   exact Rf.aI aa (fun _ _ h=>Pl.dG (Pl.eD h)) rfl rfl (fun α γ w h=>⟨_,by rw [LY hb];rfl,by rw [hD.g];exact (iE (h.r 7 rfl).1),h.ex⟩)
 · by_cases hl:dg b S (-((k:Nat):Int))<((b^(p-1):Nat):Int)
   · refine Rf.iB none fo rfl ?_
     refine Rf.aD aa 9 9 rfl ?_
     refine Rf.ak 11 _ _ rfl (Pl.en Tryz.func45) (fun α γ w h=>dO 11 (bI _ b p p lo hi ((p:Nat):Int) hf.r (by omega) (by omega))) ?_
     refine Rf.ak 12 _ _ rfl (Pl.en Tryz.func44) (fun α γ w h=>aU 12 (jv _ _ _ (Int.natAbs (((((Int.natAbs q.num):Nat):Int)*(((b^k):Nat):Int))/((q.den:Nat):Int))) (b^p) (iE (h.r 7 rfl).1) (h.r 11 rfl) _ rfl)) ?_
     refine Rf.dL (vF) rfl (fun α γ w h=>(fun X=>gJ (fun h=>hb (by have h9:=gW.1 h;rw [hD.g];omega)) X) w) ?_
     refine Rf.aD aa 9 9 rfl ?_
     refine Rf.aW (by kernel_rfl) ?_
     refine Rf.aP [4,6,7,8,12,15,61] [1,2,6,8] [7] rfl ?_
     refine Rf.HX aa 1 0 rfl ?_
     refine Rf.aQ none fo ?_
     refine Rf.aD aa 10 9 rfl ?_
     refine Rf.Be (vI (((p:Nat):Int)-1)) rfl rfl rfl rfl rfl rfl rfl rfl rfl rfl (fun α γ w h=>(fun X=>eH (by omega) X) w) ?_
     refine Rf.ak 13 _ _ rfl (Pl.en Tryz.func45) (fun α γ w h=>dO 13 (bI _ b p (p-1) lo hi (((p:Nat):Int)-1) hf.r (by omega) (by omega))) ?_
     refine Rf.ak 14 _ _ rfl (Pl.en Tryz.func44) (fun α γ w h=>aU 14 (jv _ _ _ (Int.natAbs (((((Int.natAbs q.num):Nat):Int)*(((b^k):Nat):Int))/((q.den:Nat):Int))) (b^(p-1)) (iE (h.r 7 rfl).1) (h.r 13 rfl) _ rfl)) ?_
     refine Rf.dL (vT) rfl (fun α γ w h=>(fun X=>bL (je.2 (by have h9:=hl;rw [hD.g] at h9;omega)) X) w) ?_
     refine Rf.aD aa 10 9 rfl ?_
     refine Rf.aW (by kernel_rfl) ?_
     refine Rf.aP [6,7,8,12,15,73] [2,6,8] [7] rfl ?_
     refine Rf.HX aa 1 0 rfl ?_
     refine Rf.aQ none fo ?_
     refine Rf.aD aa 6 9 rfl ?_
     refine Rf.aW (by kernel_rfl) ?_
     refine Rf.aP [6,7,8,12,15] [2,6,8] [7] rfl ?_
     repeat refine Rf.aO ?_
     exact Rf.aI aa (fun _ _ h=>Pl.dG (Pl.eD h)) rfl rfl (fun α γ w h=>⟨_,by rw [LZ hb hl];rfl,by rw [hD.g];exact (iE (h.r 7 rfl).1),h.ex⟩)
   · refine Rf.iB none fo rfl ?_
     refine Rf.aD aa 9 9 rfl ?_
     refine Rf.ak 11 _ _ rfl (Pl.en Tryz.func45) (fun α γ w h=>dO 11 (bI _ b p p lo hi ((p:Nat):Int) hf.r (by omega) (by omega))) ?_
     refine Rf.ak 12 _ _ rfl (Pl.en Tryz.func44) (fun α γ w h=>aU 12 (jv _ _ _ (Int.natAbs (((((Int.natAbs q.num):Nat):Int)*(((b^k):Nat):Int))/((q.den:Nat):Int))) (b^p) (iE (h.r 7 rfl).1) (h.r 11 rfl) _ rfl)) ?_
     refine Rf.dL (vF) rfl (fun α γ w h=>(fun X=>gJ (fun h=>hb (by have h9:=gW.1 h;rw [hD.g];omega)) X) w) ?_
     refine Rf.aD aa 9 9 rfl ?_
     refine Rf.aW (by kernel_rfl) ?_
     refine Rf.aP [4,6,7,8,12,15,61] [1,2,6,8] [7] rfl ?_
     refine Rf.HX aa 1 0 rfl ?_
     refine Rf.aQ none fo ?_
     refine Rf.aD aa 10 9 rfl ?_
     refine Rf.Be (vI (((p:Nat):Int)-1)) rfl rfl rfl rfl rfl rfl rfl rfl rfl rfl (fun α γ w h=>(fun X=>eH (by omega) X) w) ?_
     refine Rf.ak 13 _ _ rfl (Pl.en Tryz.func45) (fun α γ w h=>dO 13 (bI _ b p (p-1) lo hi (((p:Nat):Int)-1) hf.r (by omega) (by omega))) ?_
     refine Rf.ak 14 _ _ rfl (Pl.en Tryz.func44) (fun α γ w h=>aU 14 (jv _ _ _ (Int.natAbs (((((Int.natAbs q.num):Nat):Int)*(((b^k):Nat):Int))/((q.den:Nat):Int))) (b^(p-1)) (iE (h.r 7 rfl).1) (h.r 13 rfl) _ rfl)) ?_
     refine Rf.dL (vF) rfl (fun α γ w h=>(fun X=>bM (fun h=>hl (by have h9:=je.1 h;rw [hD.g];omega)) X) w) ?_
     refine Rf.aD aa 10 9 rfl ?_
     refine Rf.aW (by kernel_rfl) ?_
     refine Rf.aP [6,7,8,12,15,73] [2,6,8] [7] rfl ?_
     refine Rf.HX aa 2 0 rfl ?_
     refine Rf.aZ ?_
     refine Rf.iB none fo rfl ?_
     refine Rf.aD aa 6 9 rfl ?_
     refine Rf.aW (by kernel_rfl) ?_
     refine Rf.aP [6,7,8] [2] [7] rfl ?_
     repeat refine Rf.aO ?_
     exact Rf.aI aa (fun _ _ h=>h) rfl rfl (fun α γ w h=>⟨_,by rw [Ie hb hl];rfl,by rw [hD.g];exact (iE (h.r 7 rfl).1),h.ex⟩)
theorem qZ (w:World) (va:Value) (q:Rat) (ha:Qn w va q 9 9) (b p:Nat) (lo hi:Int) (hf:fT b p lo hi) (ee:Int) (h1 : -300≤ee) (h2:ee≤300) :
  Calls Tryz.prog 72 #[va,.agg #[.int .i64 ((b:Nat):Int),.int .i64 ((p:Nat):Int),.int .i64 lo,.int .i64 hi],.int .i64 ee] w fun e w'=>∃ u,e = .returned (.tuple #[u,.agg #[.bool (decide (0<rest b (if q<0 then -q else q) ee)),.int .i64 (yN (rest b (if q<0 then -q else q) ee)),.bool (decide (dg b (if q<0 then -q else q) ee%2=1)),.bool (decide (q<0))],.int .i64 (qX b p (if q<0 then -q else q) ee)])∧Un w' u (dg b (if q<0 then -q else q) ee).natAbs∧Pl.Ex w w':=by
 by_cases h0:0≤ee
 · exact Qh w va q ha b p lo hi hf ee h1 h2 h0
 · exact Qk w va q ha b p lo hi hf ee h1 h2 (by omega)
end Go.Proofs.YtgcieamfidoaoaaGreatDoor
/- The greatest float; floats beside a finite one. -/
namespace Go.Proofs.YtgcieamfidoaoaaGreatDoor
open Go.RowKit Rf Fm
set_option maxRecDepth 100000
def uY (b p:Nat) (hi:Int) (n:Bool) (m e:Int):Fl:=if (nK b p (m+1) e).2≤hi then .fin n (nK b p (m+1) e).1 (nK b p (m+1) e).2 else .inf n
theorem aaN {b p:Nat} {hi m e:Int} {n:Bool} (h:m+1=((b^p:Nat):Int)) (g:e+1≤hi):uY b p hi n m e = .fin n ((b^(p-1):Nat):Int) (e+1):=by unfold uY nK;rw [if_pos h];exact if_pos g
theorem aaO {b p:Nat} {hi m e:Int} {n:Bool} (h:m+1=((b^p:Nat):Int)) (g:¬ e+1≤hi):uY b p hi n m e = .inf n:=by unfold uY nK;rw [if_pos h];exact if_neg g
theorem aaP {b p:Nat} {hi m e:Int} {n:Bool} (h:¬ m+1=((b^p:Nat):Int)) (g:e≤hi):uY b p hi n m e = .fin n (m+1) e:=by unfold uY nK;rw [if_neg h];exact if_pos g
def nU (b p:Nat) (lo:Int) (n:Bool) (m e:Int):Fl:=if (lX b p lo m e).1=0 then .zero n else .fin n (lX b p lo m e).1 (lX b p lo m e).2
theorem XZ {b p:Nat} {lo m e:Int} {n:Bool} (hb:2≤b) (hp:1≤p) (h:lo<e) (g:m-1<((b^(p-1):Nat):Int)):nU b p lo n m e = .fin n (((b^p:Nat):Int)-1) (e-1):=by
 have h0:1<b^p:=Nat.one_lt_pow (by omega) (by omega)
 have h1:lX b p lo m e=(((b^p:Nat):Int)-1,e-1):=if_pos ⟨h,g⟩
 unfold nU
 rw [h1]
 exact if_neg (show ¬ (((b^p:Nat):Int)-1=0) by omega)
theorem Ql {b p:Nat} {lo m e:Int} {n:Bool} (h:¬ (lo<e∧m-1<((b^(p-1):Nat):Int))) (g:m-1=0):nU b p lo n m e = .zero n:=by
 have h1:lX b p lo m e=(m-1,e):=if_neg h
 unfold nU
 rw [h1]
 exact if_pos g
theorem Qm {b p:Nat} {lo m e:Int} {n:Bool} (h:¬ (lo<e∧m-1<((b^(p-1):Nat):Int))) (g:¬ m-1=0):nU b p lo n m e = .fin n (m-1) e:=by
 have h1:lX b p lo m e=(m-1,e):=if_neg h
 unfold nU
 rw [h1]
 exact if_neg g
theorem BS (w:World) (b p:Nat) (lo hi:Int) (hf:fT b p lo hi) :
  Calls Tryz.prog 126 #[.agg #[.int .i64 ((b:Nat):Int),.int .i64 ((p:Nat):Int),.int .i64 lo,.int .i64 hi]] w fun e w'=>∃ u,e = .returned u∧Un w' u (Int.natAbs (((b^p:Nat):Int)-1))∧Pl.Ex w w':=by
 have f1:=hf.p1
 have f2:=hf.ku
 have f3:=hf.l
 have f4:=hf.l1
 have f5:=hf.h1
 have hb2:=hf.b2
 have hpw:=Nat.pow_pos (n:=p) (show 0<b by omega)
 refine Rf.aA (n:=15) [.a [vI ((b:Nat):Int),vI ((p:Nat):Int),vI lo,vI hi]] [] [] Tryz.func126 rfl (by kernel_rfl) rfl rfl trivial ?_
 refine Rf.bu aa 1 0 rfl ?_
 refine Rf.aC 0 _ _ rfl (Pl.en Tryz.func45) (fun α γ w h=>dO 0 (bI _ b p p lo hi ((p:Nat):Int) hf.r (by omega) (by omega))) ?_
 refine Rf.mH (e := 57) (m:=1) [.int .u32 1] 1 (dW 1) rfl rfl rfl (fun _ _=>rfl) (fun α γ X=>by kernel_rfl) rfl (fun N w k=>Un.one (x:=1) k rfl (by omega)) ?_
 refine Rf.aC 2 (dW (Int.natAbs (((b^p:Nat):Int)-1))) (.t [.c 2 0,vT]) rfl (Pl.en Tryz.func140) (fun α γ w h=>PZ 2 (L8 _ _ _ (b^p) 1 (h.r 0 rfl) (h.r 1 rfl) (Nat.le_trans (bK hf.r (by omega):Sn (b^p) 38) (by decide)) true (decide_eq_true (by omega)) (Int.natAbs (((b^p:Nat):Int)-1)) (by omega))) ?_
 refine Rf.HY aa 1 1 rfl ?_
 exact Rf.aI aa (fun _ _ h=>h) rfl rfl (fun α γ w h=>⟨_,rfl,h.r 2 rfl,h.ex⟩)
theorem zT (w:World) (b p:Nat) (lo hi:Int) (hf:fT b p lo hi) (n9:Bool) :
  Calls Tryz.prog 74 #[.agg #[.int .i64 ((b:Nat):Int),.int .i64 ((p:Nat):Int),.int .i64 lo,.int .i64 hi],.bool n9] w fun e w'=>∃ u,e = .returned u∧Fv w' u (.fin n9 (((b^p:Nat):Int)-1) hi)∧Pl.Ex w w':=by
 have f1:=hf.p1
 have f2:=hf.ku
 have f3:=hf.l
 have f4:=hf.l1
 have f5:=hf.h1
 have hb2:=hf.b2
 have hpw:=Nat.pow_pos (n:=p) (show 0<b by omega)
 refine Rf.aA (n:=11) [.a [vI ((b:Nat):Int),vI ((p:Nat):Int),vI lo,vI hi],vB n9] [] [] Tryz.func74 rfl (by kernel_rfl) rfl rfl trivial ?_
 refine Rf.HX aa 1 0 rfl ?_
 refine Rf.aQ none fo ?_
 refine Rf.aD aa 7 2 rfl ?_
 refine Rf.ak 0 _ _ rfl (Pl.en Tryz.func126) (fun α γ w h=>dO 0 (BS _ b p lo hi hf)) ?_
 refine Rf.aD aa 7 2 rfl ?_
 refine Rf.aaI (.a [vI 1,vB n9,.c 0 0,vI hi]) [5,7,9] rfl rfl rfl rfl rfl (fun _ _=>rfl) (fun α γ hp X=>Rf.NJ rfl rfl (Rf.P8 1 hi n9 (γ 0 0) (hp 0 0)) X) ?_
 refine Rf.aD aa 7 2 rfl ?_
 refine Rf.aW (by kernel_rfl) ?_
 refine Rf.aP [4] [1] [0] rfl ?_
 repeat refine Rf.aO ?_
 exact Rf.aI aa (fun _ _ h=>h) rfl rfl (fun α γ w h=>⟨_,rfl,Fv.mk (x:=.fin n9 (((b^p:Nat):Int)-1) hi) (h.r 0 rfl),h.ex⟩)
theorem DL (w:World) (va:Value) (n9:Bool) (m e0:Int) (ha:Fv w va (.fin n9 m e0)) (b p:Nat) (lo hi:Int) (hf:fT b p lo hi) (hx:Nf b p lo m e0) (hh:e0≤hi) :
  Calls Tryz.prog 104 #[.agg #[.int .i64 ((b:Nat):Int),.int .i64 ((p:Nat):Int),.int .i64 lo,.int .i64 hi],va] w fun e w'=>∃ u,e = .returned u∧Fv w' u (uY b p hi n9 m e0)∧Pl.Ex w w':=by
 have f1:=hf.p1
 have f2:=hf.ku
 have f3:=hf.l
 have f4:=hf.l1
 have f5:=hf.h1
 obtain ⟨x1,x2,x3,x4⟩:=hx
 have hb2:=hf.b2
 have hpw:=Nat.pow_pos (n:=p) (show 0<b by omega)
 have hpq:=Nat.pow_pos (n:=p-1) (show 0<b by omega)
 have hs:Sn (mn (.fin n9 m e0)) 38:=Sn.down (bK hf.r (by omega):Sn (b^p) 38) (show m.natAbs≤b^p by omega)
 have hs1:Sn (Int.natAbs m) 38:=hs
 have hs2:Sn (Int.natAbs (m+1)) 38:=Sn.down (bK hf.r (by omega):Sn (b^p) 38) (by omega)
 obtain ⟨Aa,ca,rfl,ua⟩:=ha
 refine Rf.aA (n:=37) [.a [vI ((b:Nat):Int),vI ((p:Nat):Int),vI lo,vI hi],.a [vI 1,vB n9,.c 0 0,vI e0]] [[.slice Aa (limbs (Int.natAbs m)).length ca]] [(0,(dW (Int.natAbs m)).S)] Tryz.func104 rfl (by kernel_rfl) rfl rfl ⟨RS.in ua,trivial⟩ ?_
 refine Rf.bu aa 1 0 rfl ?_
 refine Rf.mH (e := 57) (m:=1) [.int .u32 1] 1 (dW 1) rfl rfl rfl (fun _ _=>rfl) (fun α γ X=>by kernel_rfl) rfl (fun N w k=>Un.one (x:=1) k rfl (by omega)) ?_
 refine Rf.aC 2 _ _ rfl (Pl.en Tryz.func73) (fun α γ w h=>dO 2 (Ig _ _ _ (Int.natAbs m) 1 (h.r 0 rfl) (h.r 1 rfl) (Nat.le_trans hs1 (by decide)) (Nat.le_trans (Sn.of (K:=1) (by decide)) (by decide)) (Int.natAbs (m+1)) (by omega))) ?_
 refine Rf.HY aa 0 3 rfl ?_
 by_cases hm:m+1=((b^p:Nat):Int)
 · refine Rf.iB none fo rfl ?_
   refine Rf.aD aa 8 3 rfl ?_
   refine Rf.ak 3 _ _ rfl (Pl.en Tryz.func45) (fun α γ w h=>dO 3 (bI _ b p p lo hi ((p:Nat):Int) hf.r (by omega) (by omega))) ?_
   refine Rf.ak 4 _ _ rfl (Pl.en Tryz.func44) (fun α γ w h=>aU 4 (jv _ _ _ (Int.natAbs (m+1)) (b^p) (h.r 2 rfl) (h.r 3 rfl) _ rfl)) ?_
   refine Rf.dL (vT) rfl (fun α γ w h=>(fun X=>aM (xC.2 (by omega)) X) w) ?_
   refine Rf.aW (by kernel_rfl) ?_
   refine Rf.aP [2,3,4,17] [0,1,2] [2] rfl ?_
   refine Rf.HX aa 1 0 rfl ?_
   refine Rf.aQ none fo ?_
   refine Rf.aD aa 12 3 rfl ?_
   refine Rf.Be (vI (((p:Nat):Int)-1)) rfl rfl rfl rfl rfl rfl rfl rfl rfl rfl (fun α γ w h=>(fun X=>eH (by omega) X) w) ?_
   refine Rf.ak 5 _ _ rfl (Pl.en Tryz.func45) (fun α γ w h=>dO 5 (bI _ b p (p-1) lo hi (((p:Nat):Int)-1) hf.r (by omega) (by omega))) ?_
   refine Rf.aD aa 12 3 rfl ?_
   refine Rf.dL (vI (e0+1)) rfl (fun α γ w h=>(fun X=>gB (by omega) X) w) ?_
   refine Rf.aD aa 12 3 rfl ?_
   refine Rf.aW (by kernel_rfl) ?_
   refine Rf.aP [2,3,4] [0,1,2] [5] rfl ?_
   repeat refine Rf.aO ?_
   by_cases he:e0+1≤hi
   · refine Rf.bu aa 0 3 rfl ?_
     refine Rf.ah (v:=.bool false) (fun X=>bz (by omega) X) rfl ?_
     refine Rf.HY aa 3 3 rfl ?_
     exact Rf.aI aa (fun _ _ h=>h) rfl rfl (fun α γ w h=>⟨_,rfl,by rw [aaN hm he];exact Fv.mk (x:=.fin n9 ((b^(p-1):Nat):Int) (e0+1)) (h.r 5 rfl),h.ex⟩)
   · refine Rf.bu aa 0 3 rfl ?_
     refine Rf.ah (v:=.bool true) (fun X=>jR (by omega) X) rfl ?_
     refine Rf.bY aa 1 3 rfl ?_
     refine Rf.gU (.a [vI 2,vB n9,vN,vI 0]) rfl rfl rfl (fun _ _=>rfl) (fun α γ X=>by kernel_rfl) ?_
     refine Rf.HY aa 0 3 rfl ?_
     exact Rf.aI aa (fun _ _ h=>h) rfl rfl (fun α γ w h=>⟨_,rfl,by rw [aaO hm he];exact Fv.mk (x:=.inf n9) (iA _),h.ex⟩)
 · refine Rf.iB none fo rfl ?_
   refine Rf.aD aa 8 3 rfl ?_
   refine Rf.ak 3 _ _ rfl (Pl.en Tryz.func45) (fun α γ w h=>dO 3 (bI _ b p p lo hi ((p:Nat):Int) hf.r (by omega) (by omega))) ?_
   refine Rf.ak 4 _ _ rfl (Pl.en Tryz.func44) (fun α γ w h=>aU 4 (jv _ _ _ (Int.natAbs (m+1)) (b^p) (h.r 2 rfl) (h.r 3 rfl) _ rfl)) ?_
   refine Rf.dL (vF) rfl (fun α γ w h=>(fun X=>aK (fun h=>hm (by have h9:=xC.1 h;omega)) X) w) ?_
   refine Rf.aW (by kernel_rfl) ?_
   refine Rf.aP [2,3,4,17] [0,1,2] [2] rfl ?_
   refine Rf.bu aa 2 3 rfl ?_
   refine Rf.ah (v:=.bool false) (fun X=>bz (by omega) X) rfl ?_
   refine Rf.HY aa 3 3 rfl ?_
   exact Rf.aI aa (fun _ _ h=>h) rfl rfl (fun α γ w h=>⟨_,rfl,by rw [aaP hm hh];exact Fv.mk (x:=.fin n9 (m+1) e0) (h.r 2 rfl),h.ex⟩)
theorem Fe (w:World) (va:Value) (n9:Bool) (m e0:Int) (ha:Fv w va (.fin n9 m e0)) (b p:Nat) (lo hi:Int) (hf:fT b p lo hi) (hx:Nf b p lo m e0) (hh:e0≤hi) :
  Calls Tryz.prog 103 #[.agg #[.int .i64 ((b:Nat):Int),.int .i64 ((p:Nat):Int),.int .i64 lo,.int .i64 hi],va] w fun e w'=>∃ u,e = .returned u∧Fv w' u (nU b p lo n9 m e0)∧Pl.Ex w w':=by
 have f1:=hf.p1
 have f2:=hf.ku
 have f3:=hf.l
 have f4:=hf.l1
 have f5:=hf.h1
 obtain ⟨x1,x2,x3,x4⟩:=hx
 have hb2:=hf.b2
 have hpw:=Nat.pow_pos (n:=p) (show 0<b by omega)
 have hpq:=Nat.pow_pos (n:=p-1) (show 0<b by omega)
 have hs:Sn (mn (.fin n9 m e0)) 38:=Sn.down (bK hf.r (by omega):Sn (b^p) 38) (show m.natAbs≤b^p by omega)
 have hs1:Sn (Int.natAbs m) 38:=hs
 have hs2:Sn (Int.natAbs (m+1)) 38:=Sn.down (bK hf.r (by omega):Sn (b^p) 38) (by omega)
 obtain ⟨Aa,ca,rfl,ua⟩:=ha
 refine Rf.aA (n:=46) [.a [vI ((b:Nat):Int),vI ((p:Nat):Int),vI lo,vI hi],.a [vI 1,vB n9,.c 0 0,vI e0]] [[.slice Aa (limbs (Int.natAbs m)).length ca]] [(0,(dW (Int.natAbs m)).S)] Tryz.func103 rfl (by kernel_rfl) rfl rfl ⟨RS.in ua,trivial⟩ ?_
 refine Rf.bu aa 1 0 rfl ?_
 refine Rf.mH (e := 57) (m:=1) [.int .u32 1] 1 (dW 1) rfl rfl rfl (fun _ _=>rfl) (fun α γ X=>by kernel_rfl) rfl (fun N w k=>Un.one (x:=1) k rfl (by omega)) ?_
 refine Rf.aC 2 (dW (Int.natAbs (m-1))) (.t [.c 2 0,vT]) rfl (Pl.en Tryz.func140) (fun α γ w h=>PZ 2 (L8 _ _ _ (Int.natAbs m) 1 (h.r 0 rfl) (h.r 1 rfl) (Nat.le_trans hs1 (by decide)) true (decide_eq_true (by omega)) (Int.natAbs (m-1)) (by omega))) ?_
 refine Rf.HY aa 0 3 rfl ?_
 refine Rf.bf ?_
 repeat refine Rf.aO ?_
 by_cases hl:lo<e0
 · by_cases hg:m-1<((b^(p-1):Nat):Int)
   · refine Rf.iB none fo rfl ?_
     refine Rf.aD aa 17 3 rfl ?_
     refine Rf.dL (vT) rfl (fun α γ w h=>(fun X=>jR (by omega) X) w) ?_
     refine Rf.aD aa 17 3 rfl ?_
     refine Rf.Be (vI (((p:Nat):Int)-1)) rfl rfl rfl rfl rfl rfl rfl rfl rfl rfl (fun α γ w h=>(fun X=>eH (by omega) X) w) ?_
     refine Rf.ak 3 _ _ rfl (Pl.en Tryz.func45) (fun α γ w h=>dO 3 (bI _ b p (p-1) lo hi (((p:Nat):Int)-1) hf.r (by omega) (by omega))) ?_
     refine Rf.ak 4 _ _ rfl (Pl.en Tryz.func44) (fun α γ w h=>aU 4 (jv _ _ _ (Int.natAbs (m-1)) (b^(p-1)) (h.r 2 rfl) (h.r 3 rfl) _ rfl)) ?_
     refine Rf.dL (vT) rfl (fun α γ w h=>(fun X=>bL (je.2 (by omega)) X) w) ?_
     refine Rf.aD aa 17 3 rfl ?_
     refine Rf.aW (by kernel_rfl) ?_
     refine Rf.aP [2,3,4,13] [0,1,2] [2] rfl ?_
     refine Rf.HX aa 1 0 rfl ?_
     refine Rf.aQ none fo ?_
     refine Rf.aD aa 9 3 rfl ?_
     refine Rf.ak 5 _ _ rfl (Pl.en Tryz.func126) (fun α γ w h=>dO 5 (BS _ b p lo hi hf)) ?_
     refine Rf.aD aa 9 3 rfl ?_
     refine Rf.dL (vI (e0-1)) rfl (fun α γ w h=>(fun X=>eH (by omega) X) w) ?_
     refine Rf.aD aa 9 3 rfl ?_
     refine Rf.aW (by kernel_rfl) ?_
     refine Rf.aP [3,4] [1,2] [5] rfl ?_
     refine Rf.aZ ?_
     refine Rf.HX aa 1 3 rfl ?_
     exact Rf.aI aa (fun _ _ h=>h) rfl rfl (fun α γ w h=>⟨_,rfl,by rw [XZ hb2 f1 hl hg];exact Fv.mk (x:=.fin n9 (((b^p:Nat):Int)-1) (e0-1)) (h.r 5 rfl),h.ex⟩)
   · refine Rf.iB none fo rfl ?_
     refine Rf.aD aa 17 3 rfl ?_
     refine Rf.dL (vT) rfl (fun α γ w h=>(fun X=>jR (by omega) X) w) ?_
     refine Rf.aD aa 17 3 rfl ?_
     refine Rf.Be (vI (((p:Nat):Int)-1)) rfl rfl rfl rfl rfl rfl rfl rfl rfl rfl (fun α γ w h=>(fun X=>eH (by omega) X) w) ?_
     refine Rf.ak 3 _ _ rfl (Pl.en Tryz.func45) (fun α γ w h=>dO 3 (bI _ b p (p-1) lo hi (((p:Nat):Int)-1) hf.r (by omega) (by omega))) ?_
     refine Rf.ak 4 _ _ rfl (Pl.en Tryz.func44) (fun α γ w h=>aU 4 (jv _ _ _ (Int.natAbs (m-1)) (b^(p-1)) (h.r 2 rfl) (h.r 3 rfl) _ rfl)) ?_
     refine Rf.dL (vF) rfl (fun α γ w h=>(fun X=>bM (fun h=>hg (by have h9:=je.1 h;omega)) X) w) ?_
     refine Rf.aD aa 17 3 rfl ?_
     refine Rf.aW (by kernel_rfl) ?_
     refine Rf.aP [2,3,4,13] [0,1,2] [2] rfl ?_
     refine Rf.HX aa 1 0 rfl ?_
     by_cases hz:m-1=0
     · refine Rf.bu aa 0 3 rfl ?_
       refine Rf.dD ((limbs (Int.natAbs (m-1))).length) Tryz.underlying24 rfl rfl rfl rfl rfl rfl (fun w f h=>Un.jX h) ?_
       refine Rf.ah (v:=.bool true) (fun X=>aM (by rw [Int.ofNat_eq_zero,jQ];omega) X) rfl ?_
       refine Rf.bY aa 1 3 rfl ?_
       refine Rf.gU (.a [vI 0,vB n9,vN,vI 0]) rfl rfl rfl (fun _ _=>rfl) (fun α γ X=>by kernel_rfl) ?_
       refine Rf.HY aa 0 3 rfl ?_
       exact Rf.aI aa (fun _ _ h=>Pl.dG (Pl.eD h)) rfl rfl (fun α γ w h=>⟨_,rfl,by rw [Ql (fun h=>hg h.2) hz];exact Fv.mk (x:=.zero n9) (iA _),h.ex⟩)
     · refine Rf.bu aa 0 3 rfl ?_
       refine Rf.dD ((limbs (Int.natAbs (m-1))).length) Tryz.underlying24 rfl rfl rfl rfl rfl rfl (fun w f h=>Un.jX h) ?_
       refine Rf.ah (v:=.bool false) (fun X=>aK (fun h=>by rw [Int.ofNat_eq_zero,jQ] at h;omega) X) rfl ?_
       refine Rf.HY aa 2 3 rfl ?_
       refine Rf.aZ ?_
       refine Rf.HX aa 1 3 rfl ?_
       exact Rf.aI aa (fun _ _ h=>h) rfl rfl (fun α γ w h=>⟨_,rfl,by rw [Qm (fun h=>hg h.2) hz];exact Fv.mk (x:=.fin n9 (m-1) e0) (h.r 2 rfl),h.ex⟩)
 · refine Rf.iB none fo rfl ?_
   refine Rf.aD aa 17 3 rfl ?_
   refine Rf.dL (vF) rfl (fun α γ w h=>(fun X=>bz (by omega) X) w) ?_
   refine Rf.aD aa 17 3 rfl ?_
   refine Rf.aW (by kernel_rfl) ?_
   refine Rf.aP [2,3,4,13] [0,1,2] [2] rfl ?_
   refine Rf.HX aa 1 0 rfl ?_
   by_cases hz:m-1=0
   · refine Rf.bu aa 0 3 rfl ?_
     refine Rf.dD ((limbs (Int.natAbs (m-1))).length) Tryz.underlying24 rfl rfl rfl rfl rfl rfl (fun w f h=>Un.jX h) ?_
     refine Rf.ah (v:=.bool true) (fun X=>aM (by rw [Int.ofNat_eq_zero,jQ];omega) X) rfl ?_
     refine Rf.bY aa 1 3 rfl ?_
     refine Rf.gU (.a [vI 0,vB n9,vN,vI 0]) rfl rfl rfl (fun _ _=>rfl) (fun α γ X=>by kernel_rfl) ?_
     refine Rf.HY aa 0 3 rfl ?_
     exact Rf.aI aa (fun _ _ h=>Pl.dG (Pl.eD h)) rfl rfl (fun α γ w h=>⟨_,rfl,by rw [Ql (fun h=>hl h.1) hz];exact Fv.mk (x:=.zero n9) (iA _),h.ex⟩)
   · refine Rf.bu aa 0 3 rfl ?_
     refine Rf.dD ((limbs (Int.natAbs (m-1))).length) Tryz.underlying24 rfl rfl rfl rfl rfl rfl (fun w f h=>Un.jX h) ?_
     refine Rf.ah (v:=.bool false) (fun X=>aK (fun h=>by rw [Int.ofNat_eq_zero,jQ] at h;omega) X) rfl ?_
     refine Rf.HY aa 2 3 rfl ?_
     refine Rf.aZ ?_
     refine Rf.HX aa 1 3 rfl ?_
     exact Rf.aI aa (fun _ _ h=>h) rfl rfl (fun α γ w h=>⟨_,rfl,by rw [Qm (fun h=>hl h.1) hz];exact Fv.mk (x:=.fin n9 (m-1) e0) (h.r 2 rfl),h.ex⟩)
end Go.Proofs.YtgcieamfidoaoaaGreatDoor
