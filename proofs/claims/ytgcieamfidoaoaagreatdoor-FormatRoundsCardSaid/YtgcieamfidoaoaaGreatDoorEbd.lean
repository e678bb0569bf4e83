/- Formats: digits of a size to a radix, the exponent that fits. -/
import Derived.Test.YtgcieamfidoaoaaGreatDoorEay
set_option linter.all false
set_option maxHeartbeats 8000000
namespace Go.Proofs.YtgcieamfidoaoaaGreatDoor.Fm
open Dy
set_option maxRecDepth 100000
theorem b_pos {b:Nat} (hb:2≤b):(0:Rat)<((b:Int):Rat):=by
 have:((0:Int):Rat)<((b:Int):Rat):=Rat.intCast_lt_intCast.2 (by omega)
 exact this
theorem afi {b:Nat} (hb:2≤b):((b:Int):Rat)≠0:=Rat.ne_of_gt (b_pos hb)
def bp (b:Nat) (e:Int):Rat:=((b:Int):Rat)^e
theorem tC {b:Nat} (hb:2≤b) (e:Int):0<bp b e:=Rat.zpow_pos (b_pos hb)
theorem Md {b:Nat} (hb:2≤b) (e:Int):bp b e≠0:=Rat.ne_of_gt (tC hb e)
theorem Ga {b:Nat} (hb:2≤b) (x y:Int):bp b (x+y)=bp b x*bp b y:=Rat.zpow_add (afi hb) x y
theorem ry (b k:Nat):bp b (k:Int)=(((b^k:Nat):Int):Rat):=by
 unfold bp
 rw [Rat.zpow_natCast]
 induction k with
 | zero=>rfl
 | succ k ih=>rw [Rat.pow_succ,ih,Nat.pow_succ,Int.natCast_mul,Rat.intCast_mul]
theorem Sj (b:Nat):bp b 1=((b:Int):Rat):=by
 have:=ry b 1
 rw [Nat.pow_one] at this
 exact this
theorem VE (b:Nat):bp b 0=1:=by unfold bp;exact Rat.zpow_zero _
theorem y5 {b:Nat} (hb:2≤b) (e:Int):bp b e*bp b (-e)=1:=by
 rw [← Ga hb,show e + -e=0 by omega,VE]
def dg (b:Nat) (s:Rat) (e:Int):Int:=(s*bp b (-e)).floor
theorem jw {b:Nat} (hb:2≤b) {s:Rat} (hs:0≤s) (e:Int):0≤dg b s e:=by
 unfold dg
 rw [acI]
 exact Rat.mul_nonneg hs (Rat.le_of_lt (tC hb _))
theorem Zk {x:Rat} {b:Nat} (hb:2≤b) {y:Rat} (hy:y*((b:Int):Rat)=x):y.floor=x.floor/(b:Int):=by
 have h1:=MN x
 have h2:=MO x
 have hp:=b_pos hb
 generalize x.floor=m at *
 have e1:=Int.mul_ediv_add_emod m b
 have e2:=Int.emod_nonneg m (show (b:Int)≠0 by omega)
 have e3:=Int.emod_lt_of_pos m (show (0:Int)<b by omega)
 generalize hn:m/(b:Int)=n at *
 generalize m%(b:Int)=r at *
 refine Sc ?_ ?_
 · refine Rat.le_of_mul_le_mul_right (c:=((b:Int):Rat)) ?_ hp
   rw [hy]
   refine Rat.le_trans ?_ h1
   rw [← Rat.intCast_mul]
   exact Rat.intCast_le_intCast.2 (by rw [Int.mul_comm];omega)
 · refine Rat.lt_of_mul_lt_mul_right (c:=((b:Int):Rat)) ?_ (Rat.le_of_lt hp)
   rw [hy]
   have h5:((m+1:Int):Rat)≤(((n+1)*b:Int):Rat):=Rat.intCast_le_intCast.2 (by rw [Int.add_mul,Int.mul_comm n];omega)
   rw [Rat.intCast_add,Rat.intCast_mul,Rat.intCast_add] at h5
   exact Rat.not_le.1 fun h6=>Rat.not_lt.2 (Rat.le_trans h5 h6) h2
theorem dg_succ {b:Nat} (hb:2≤b) (s:Rat) (e:Int):dg b s (e+1)=dg b s e/(b:Int):=by
 unfold dg
 refine Zk hb ?_
 rw [Rat.mul_assoc,← Sj,← Ga hb,show -(e+1)+1 = -e by omega]
def Fit (b p:Nat) (lo:Int) (s:Rat) (e:Int):Prop:=lo≤e∧dg b s e<((b^p:Nat):Int)∧(e=lo∨((b^(p-1):Nat):Int)≤dg b s e)
theorem CZ {b:Nat} (hb:2≤b) (s:Rat) (e:Int):∀ k:Nat,dg b s (e+k)=dg b s e/((b^k:Nat):Int)
 | 0=>by rw [Nat.pow_zero];simp
 | k+1=>by
  rw [show e+((k+1:Nat):Int)=(e+k)+1 by omega,dg_succ hb,CZ hb s e k,Nat.pow_succ,Int.natCast_mul,Int.ediv_ediv_of_nonneg (by omega)]
theorem Fit.le {b p:Nat} (hb:2≤b) (hp:1≤p) {lo e f:Int} {s:Rat} (h:Fit b p lo s e) (g:Fit b p lo s f):f≤e:=by
 obtain ⟨h1,h2,h3⟩:=h
 obtain ⟨g1,g2,g3⟩:=g
 by_cases hl:f≤e
 · exact hl
 · exfalso
   obtain ⟨k,hk⟩:∃ k:Nat,f=e+(k+1:Nat):=⟨(f-e-1).toNat,by omega⟩
   subst hk
   rcases g3 with g3 | g3
   · omega
   · rw [CZ hb] at g3
     have h4:dg b s e/((b^(k+1):Nat):Int)<((b^(p-1):Nat):Int):=by
      refine Int.ediv_lt_of_lt_mul (by have:=Nat.pow_pos (n:=k+1) (show 0<b by omega);omega) ?_
      refine Int.lt_of_lt_of_le h2 ?_
      rw [← Int.natCast_mul,← Nat.pow_add]
      exact Int.ofNat_le.2 (Nat.pow_le_pow_right (by omega) (by omega))
     omega
theorem Fit.uniq {b p:Nat} (hb:2≤b) (hp:1≤p) {lo e f:Int} {s:Rat} (h:Fit b p lo s e) (g:Fit b p lo s f):e=f:=Int.le_antisymm (g.le hb hp h) (h.le hb hp g)
theorem VF {b p:Nat} (hb:2≤b) (hp:1≤p) {s:Rat} {e:Int} (h:((b^p:Nat):Int)≤dg b s e):((b^(p-1):Nat):Int)≤dg b s (e+1):=by
 rw [dg_succ hb]
 refine Int.le_ediv_of_mul_le (by omega) ?_
 refine Int.le_trans ?_ h
 rw [← Int.natCast_mul,← Nat.pow_succ,show (p-1).succ=p by omega]
 exact Int.le_refl _
theorem EE {b p:Nat} (hb:2≤b) (hp:1≤p) {s:Rat} {lo:Int}:∀ k:Nat,dg b s (lo+k)<((b^p:Nat):Int)→∃ e,Fit b p lo s e∧e≤lo+k
 | 0,h=>⟨lo,⟨Int.le_refl _,by rw [show lo+((0:Nat):Int)=lo by omega] at h;exact h,.inl rfl⟩,by omega⟩
 | k+1,h=>by
  by_cases h1:dg b s (lo+k)<((b^p:Nat):Int)
  · obtain ⟨e,h2,h3⟩:=EE hb hp k h1
    exact ⟨e,h2,by omega⟩
  · have h2:=VF hb hp (s:=s) (e:=lo+k) (by omega)
    rw [show lo+(k:Int)+1=lo+((k+1:Nat):Int) by omega] at h2
    exact ⟨lo+((k+1:Nat):Int),⟨by omega,h,.inr h2⟩,Int.le_refl _⟩
theorem kW {b p:Nat} (hb:2≤b) (hp:1≤p) {s:Rat} (hs:0≤s) (lo:Int):∃ e,Fit b p lo s e:=by
 have h0:=jw hb hs lo
 obtain ⟨n,hn⟩:=Int.eq_ofNat_of_zero_le h0
 obtain ⟨e,h,_⟩:=EE hb hp (s:=s) (lo:=lo) n (by
  rw [CZ hb,hn]
  have h1:n<b^n:=Nat.lt_pow_self (by omega)
  have h2:((n:Nat):Int)/((b^n:Nat):Int)=0:=Int.ediv_eq_zero_of_lt (by omega) (by omega)
  rw [h2]
  have:=Nat.pow_pos (n:=p) (show 0<b by omega)
  omega)
 exact ⟨e,h⟩
theorem Fit.above {b p:Nat} (hb:2≤b) (hp:1≤p) {lo e f:Int} {s:Rat} (h:Fit b p lo s f) (he:lo≤e) (g:((b^p:Nat):Int)≤dg b s e):e<f:=by
 obtain ⟨h1,h2,_⟩:=h
 by_cases hl:e<f
 · exact hl
 · exfalso
   obtain ⟨k,hk⟩:∃ k:Nat,e=f+k:=⟨(e-f).toNat,by omega⟩
   subst hk
   rw [CZ hb] at g
   have hk0:=Nat.pow_pos (n:=k) (show 0<b by omega)
   have h3:dg b s f/((b^k:Nat):Int)<((b^p:Nat):Int):=by
    refine Int.ediv_lt_of_lt_mul (by omega) (Int.lt_of_lt_of_le h2 ?_)
    rw [← Int.natCast_mul]
    exact Int.ofNat_le.2 (Nat.le_mul_of_pos_right _ hk0)
   omega
theorem Fit.below {b p:Nat} (hb:2≤b) (hp:1≤p) {lo e f:Int} {s:Rat} (h:Fit b p lo s f) (he:lo<e) (g:dg b s e<((b^(p-1):Nat):Int)):f<e:=by
 obtain ⟨h1,h2,h3⟩:=h
 by_cases hl:f<e
 · exact hl
 · exfalso
   rcases h3 with h3 | h3
   · omega
   · obtain ⟨k,hk⟩:∃ k:Nat,f=e+k:=⟨(f-e).toNat,by omega⟩
     subst hk
     rw [CZ hb] at h3
     have hk0:=Nat.pow_pos (n:=k) (show 0<b by omega)
     have h4:dg b s e/((b^k:Nat):Int)<((b^(p-1):Nat):Int):=by
      refine Int.ediv_lt_of_lt_mul (by omega) (Int.lt_of_lt_of_le g ?_)
      rw [← Int.natCast_mul]
      exact Int.ofNat_le.2 (Nat.le_mul_of_pos_right _ hk0)
     omega
def Nf (b p:Nat) (lo m e:Int):Prop:=lo≤e∧0<m∧m<((b^p:Nat):Int)∧(e=lo∨((b^(p-1):Nat):Int)≤m)
def vl (b:Nat) (m e:Int):Rat:=(m:Rat)*bp b e
def nK (b p:Nat) (m e:Int):Int × Int:=if m=((b^p:Nat):Int) then (((b^(p-1):Nat):Int),e+1) else (m,e)
def nR (d:Nat) (neg odd:Bool) (r:Rat):Bool :=
 if d=0 then decide (1/2<r)||decide (r=1/2)&&odd else if d=1 then decide (1/2≤r) else if d=3 then !neg&&decide (0<r) else if d=4 then neg&&decide (0<r) else false
def rest (b:Nat) (s:Rat) (e:Int):Rat:=s*bp b (-e)-((dg b s e:Int):Rat)
def lY (b d:Nat) (neg:Bool) (s:Rat) (e:Int):Int:=dg b s e+if nR d neg (decide (dg b s e%2=1)) (rest b s e) then 1 else 0
theorem uP (b d:Nat) (neg:Bool) (s:Rat) (e:Int):lY b d neg s e=dg b s e∨lY b d neg s e=dg b s e+1:=by
 unfold lY
 split
 · exact .inr rfl
 · exact .inl (Int.add_zero _)
inductive Fl where
 | zero (neg:Bool)
 | fin (neg:Bool) (m e:Int)
 | inf (neg:Bool)
def bO (b p:Nat) (lo hi:Int):Fl→Prop
 | .fin _ m e=>Nf b p lo m e∧e≤hi
 | _=>True
def BX (d:Nat) (neg:Bool):Bool:=if d=2 then false else if d=3 then !neg else if d=4 then neg else true
def res (b p:Nat) (hi:Int) (d:Nat) (neg:Bool) (m e:Int):Fl :=
 if (nK b p m e).1=0 then .zero neg else if (nK b p m e).2≤hi then .fin neg (nK b p m e).1 (nK b p m e).2 else if BX d neg then .inf neg else .fin neg (((b^p:Nat):Int)-1) hi
def Rd (b p:Nat) (lo hi:Int) (d:Nat) (q:Rat) (x:Fl):Prop :=
 q=0∧x = .zero false∨q≠0∧∃ e,Fit b p lo (if q<0 then -q else q) e∧x=res b p hi d (decide (q<0)) (lY b d (decide (q<0)) (if q<0 then -q else q) e) e
theorem BZ {b p:Nat} (hb:2≤b) {lo e:Int} {s:Rat} (d:Nat) (neg:Bool) (h0:0≤s) (h:Fit b p lo s e):0≤lY b d neg s e∧lY b d neg s e≤((b^p:Nat):Int)∧(e=lo∨((b^(p-1):Nat):Int)≤lY b d neg s e):=by
 have hn:=jw hb h0 e
 obtain ⟨h1,h2,h3⟩:=h
 rcases uP b d neg s e with h4 | h4<;>rw [h4]<;>refine ⟨by omega,by omega,?_⟩<;>rcases h3 with h3 | h3
 · exact .inl h3
 · exact .inr h3
 · exact .inl h3
 · exact .inr (by omega)
theorem Rd.uniq {b p:Nat} (hb:2≤b) (hp:1≤p) {lo hi:Int} {d:Nat} {q:Rat} {x y:Fl} (h:Rd b p lo hi d q x) (g:Rd b p lo hi d q y):x=y:=by
 rcases h with ⟨h1,rfl⟩ | ⟨h1,e,h2,rfl⟩<;>rcases g with ⟨g1,rfl⟩ | ⟨g1,f,g2,rfl⟩
 · rfl
 · exact absurd h1 g1
 · exact absurd g1 h1
 · obtain rfl:=Fit.uniq hb hp h2 g2
   rfl
def sv (neg:Bool) (v:Rat):Rat:=if neg then -v else v
def ext (b p:Nat) (hi:Int):Fl→Rat
 | .zero _=>0
 | .fin neg m e=>sv neg (vl b m e)
 | .inf neg=>sv neg (vl b ((b^p:Nat):Int) hi)
def Fl.turn:Fl→Fl
 | .zero neg=>.zero (!neg)
 | .fin neg m e=>.fin (!neg) m e
 | .inf neg=>.inf (!neg)
theorem bO.turn {b p:Nat} {lo hi:Int} {x:Fl} (h:bO b p lo hi x):bO b p lo hi x.turn:=by cases x<;>exact h
def lX (b p:Nat) (lo m e:Int):Int × Int:=if lo<e∧m-1<((b^(p-1):Nat):Int) then (((b^p:Nat):Int)-1,e-1) else (m-1,e)
def fE (b p:Nat) (lo hi:Int):Fl→Fl
 | .zero _=>.fin false 1 lo
 | .inf true=>.fin true (((b^p:Nat):Int)-1) hi
 | .inf false=>.inf false
 | .fin false m e=>if (nK b p (m+1) e).2≤hi then .fin false (nK b p (m+1) e).1 (nK b p (m+1) e).2 else .inf false
 | .fin true m e=>if (lX b p lo m e).1=0 then .zero true else .fin true (lX b p lo m e).1 (lX b p lo m e).2
def fV (b p:Nat) (lo hi:Int) (x:Fl):Fl:=(fE b p lo hi x.turn).turn
end Go.Proofs.YtgcieamfidoaoaaGreatDoor.Fm
/- Floats in cells: kinds, signs; what is rounded as a function; where a rest lies. -/
namespace Go.Proofs.YtgcieamfidoaoaaGreatDoor.Fm
open Dy
set_option maxRecDepth 100000
def kd:Fl→Int
 | .zero _=>0
 | .fin _ _ _=>1
 | .inf _=>2
def ng:Fl→Bool
 | .zero n=>n
 | .fin n _ _=>n
 | .inf n=>n
def mn:Fl→Nat
 | .fin _ m _=>m.natAbs
 | _=>0
def xp:Fl→Int
 | .fin _ _ e=>e
 | _=>0
def vf (b:Nat):Fl→Rat
 | .fin n m e=>sv n (vl b m e)
 | _=>0
theorem zX (q:Rat):0≤(if q<0 then -q else q):=by split<;>grind
theorem Xq {b p:Nat} (hb:2≤b) (hp:1≤p) (lo hi:Int) (d:Nat) (q:Rat):∃ x,Rd b p lo hi d q x:=by
 by_cases hq:q=0
 · exact ⟨.zero false,.inl ⟨hq,rfl⟩⟩
 · obtain ⟨e,he⟩:=kW hb hp (s:=if q<0 then -q else q) (zX q) lo
   exact ⟨_,.inr ⟨hq,e,he,rfl⟩⟩
open Classical in
noncomputable def rd (b p:Nat) (lo hi:Int) (d:Nat) (q:Rat):Fl:=if h:∃ x,Rd b p lo hi d q x then Classical.choose h else .zero false
theorem vL {b p:Nat} (hb:2≤b) (hp:1≤p) (lo hi:Int) (d:Nat) (q:Rat):Rd b p lo hi d q (rd b p lo hi d q):=by
 unfold rd
 rw [dif_pos (Xq hb hp lo hi d q)]
 exact Classical.choose_spec (Xq hb hp lo hi d q)
theorem rd_eq {b p:Nat} (hb:2≤b) (hp:1≤p) {lo hi:Int} {d:Nat} {q:Rat} {x:Fl} (h:Rd b p lo hi d q x):rd b p lo hi d q=x:=(vL hb hp lo hi d q).uniq hb hp h
theorem uM {b p:Nat} (hb:2≤b) (hp:1≤p) {lo hi:Int} {d:Nat}:rd b p lo hi d 0 = .zero false:=rd_eq hb hp (.inl ⟨rfl,rfl⟩)
theorem yZ {b p:Nat} (hb:2≤b) (hp:1≤p) {lo hi e:Int} {d:Nat} {q:Rat} (hq:q≠0) (h:Fit b p lo (if q<0 then -q else q) e):rd b p lo hi d q=res b p hi d (decide (q<0)) (lY b d (decide (q<0)) (if q<0 then -q else q) e) e:=rd_eq hb hp (.inr ⟨hq,e,h,rfl⟩)
def yN (r:Rat):Int:=if r<1/2 then -1 else if r=1/2 then 0 else 1
def qX (b p:Nat) (s:Rat) (e:Int):Int:=if ((b^p:Nat):Int)≤dg b s e then 1 else if dg b s e<((b^(p-1):Nat):Int) then -1 else 0
theorem Ma {b p:Nat} {lo e:Int} {s:Rat} (h:lo≤e) (h1:qX b p s e≤0) (h2:qX b p s e=0∨e=lo):Fit b p lo s e:=by
 unfold qX at h1 h2
 split at h1
 · omega
 · next h3 =>
   rw [if_neg h3] at h2
   refine ⟨h,by omega,?_⟩
   split at h2
   · rcases h2 with h2 | h2
     · omega
     · exact .inl h2
   · exact .inr (by omega)
theorem Yh {b p:Nat} (hb:2≤b) (hp:1≤p) {lo e f:Int} {s:Rat} (g:Fit b p lo s f) (h:lo≤e) (h1:0<qX b p s e):qX b p s e=1∧e<f:=by
 unfold qX at h1 ⊢
 split at h1
 · next h2=>rw [if_pos h2];exact ⟨rfl,g.above hb hp h h2⟩
 · split at h1<;>omega
theorem Qp {b p:Nat} (hb:2≤b) (hp:1≤p) {lo e f:Int} {s:Rat} (g:Fit b p lo s f) (h:lo<e) (h1:qX b p s e<0):qX b p s e = -1∧f<e:=by
 unfold qX at h1 ⊢
 split at h1
 · omega
 · next h2 =>
   rw [if_neg h2]
   split at h1
   · next h3=>rw [if_pos h3];exact ⟨rfl,g.below hb hp h h3⟩
   · omega
theorem Bg {b:Nat} {s:Rat} {e N D:Int} (hD:0<D) (hx:s*bp b (-e)=(N:Rat)/(D:Rat)):dg b s e=N/D:=by
 unfold dg;rw [hx];exact OQ hD
theorem EF {b:Nat} {s:Rat} {e N D:Int} (hD:0<D) (hx:s*bp b (-e)=(N:Rat)/(D:Rat)):rest b s e*(D:Rat)=((N%D:Int):Rat):=by
 have hD':(0:Rat)<(D:Rat):=by have:=Rat.intCast_lt_intCast.2 hD;exact this
 have h1:N/D*D+N%D=N:=Int.ediv_mul_add_emod N D
 have h2:((N/D:Int):Rat)*(D:Rat)+((N%D:Int):Rat)=(N:Rat):=by rw [← Rat.intCast_mul,← Rat.intCast_add,h1]
 unfold rest
 have h3:(N:Rat)/(D:Rat)*(D:Rat)=(N:Rat):=Rat.div_mul_cancel (Rat.ne_of_gt hD')
 rw [Bg hD hx,hx]
 grind
theorem BP {b:Nat} {s:Rat} {e N D:Int} (hD:0<D) (hx:s*bp b (-e)=(N:Rat)/(D:Rat)):0<N%D↔0<rest b s e:=by
 have hD':(0:Rat)<(D:Rat):=by have:=Rat.intCast_lt_intCast.2 hD;exact this
 have h:=EF hD hx
 rw [show (0<N%D↔(0:Rat)<((N%D:Int):Rat)) from ⟨fun h=>Rat.intCast_lt_intCast.2 h,fun h=>Rat.intCast_lt_intCast.1 h⟩,← h]
 constructor
 · intro g;exact Rat.not_le.1 fun h9=>by
    have:=Rat.mul_nonneg (show 0 ≤ -rest b s e by grind) (Rat.le_of_lt hD')
    grind
 · intro g;exact Rat.mul_pos g hD'
theorem Il {b:Nat} {s:Rat} {e N D:Int} (hD:0<D) (hx:s*bp b (-e)=(N:Rat)/(D:Rat)):(2*(N%D)<D↔rest b s e<1/2)∧(2*(N%D)=D↔rest b s e=1/2):=by
 have hD':(0:Rat)<(D:Rat):=by have:=Rat.intCast_lt_intCast.2 hD;exact this
 have h:=EF hD hx
 have h2:((2*(N%D):Int):Rat)=2*(rest b s e*(D:Rat)):=by rw [h,Rat.intCast_mul];rfl
 have e0:2*(rest b s e*(D:Rat))=(2*rest b s e)*D:=by grind
 refine ⟨?_,?_⟩
 · rw [← Rat.intCast_lt_intCast,h2,e0]
   constructor
   · intro g;exact Rat.not_le.1 fun h9=>by
      have:=Rat.mul_nonneg (show 0≤2*rest b s e-1 by grind) (Rat.le_of_lt hD')
      grind
   · intro g
     have:=Rat.mul_pos (show 0<1-2*rest b s e by grind) hD'
     grind
 · rw [show (2*(N%D)=D↔((2*(N%D):Int):Rat)=(D:Rat)) from ⟨fun h=>by rw [h],fun h=>Rat.intCast_inj.1 h⟩,h2,e0]
   constructor
   · intro g
     have h9:(2*rest b s e-1)*(D:Rat)=0:=by grind
     rcases Rat.mul_eq_zero.1 h9 with h9 | h9
     · grind
     · grind
   · intro g;rw [g];grind
theorem Ul {b:Nat} {s:Rat} {e N D:Int} (hD:0<D) (hx:s*bp b (-e)=(N:Rat)/(D:Rat)):(if 2*(N%D)<D then (-1:Int) else if D<2*(N%D) then 1 else 0)=yN (rest b s e):=by
 obtain ⟨h1,h2⟩:=Il hD hx
 unfold yN
 by_cases c1:2*(N%D)<D
 · rw [if_pos c1,if_pos (h1.1 c1)]
 · rw [if_neg c1,if_neg (fun h=>c1 (h1.2 h))]
   by_cases c2:2*(N%D)=D
   · rw [if_neg (by omega),if_pos (h2.1 c2)]
   · rw [if_pos (by omega),if_neg (fun h=>c2 (h2.2 h))]
theorem BQ {b:Nat} (hb:2≤b) {n d e:Int} {s:Rat} (hd:0<d) (hs:s=(n:Rat)/(d:Rat)) (he:0≤e):s*bp b (-e)=(n:Rat)/((d*((b^e.toNat:Nat):Int):Int):Rat)∧0<d*((b^e.toNat:Nat):Int):=by
 have hk:=Nat.pow_pos (n:=e.toNat) (show 0<b by omega)
 have hd':(0:Rat)<(d:Rat):=by have:=Rat.intCast_lt_intCast.2 hd;exact this
 refine ⟨?_,Int.mul_pos hd (by omega)⟩
 have h1:=y5 hb e
 have h2:bp b e=(((b^e.toNat:Nat):Int):Rat):=by
  have:=ry b e.toNat
  rwa [show ((e.toNat:Nat):Int)=e by omega] at this
 have h3:bp b (-e)=(bp b e)⁻¹:=by
  have hne:=Md hb e
  have:bp b (-e)=bp b e*bp b (-e)*(bp b e)⁻¹:=by
   rw [Rat.mul_comm (bp b e),Rat.mul_assoc,Rat.mul_inv_cancel _ hne,Rat.mul_one]
  rw [h1,Rat.one_mul] at this
  exact this
 rw [hs,h3,h2,Rat.intCast_mul,Rat.div_def,Rat.div_def,Rat.inv_mul_rev,Rat.mul_assoc,Rat.mul_comm (d:Rat)⁻¹]
theorem BR {b:Nat} {n d e:Int} {s:Rat} (hs:s=(n:Rat)/(d:Rat)) (he:e<0):s*bp b (-e)=((n*((b^(-e).toNat:Nat):Int):Int):Rat)/(d:Rat):=by
 have h2:bp b (-e)=(((b^(-e).toNat:Nat):Int):Rat):=by
  have:=ry b (-e).toNat
  rwa [show (((-e).toNat:Nat):Int) = -e by omega] at this
 rw [hs,h2,Rat.intCast_mul,Rat.div_def,Rat.div_def,Rat.mul_assoc,Rat.mul_assoc,Rat.mul_comm (d:Rat)⁻¹]
theorem xD (q:Rat):(if q<0 then -q else q)=((q.num.natAbs:Int):Rat)/((q.den:Nat):Int):=by
 have h:(q.num:Rat)/((q.den:Int):Rat)=q:=by rw [← Rat.divInt_eq_div];exact Rat.num_divInt_den q
 have hd:(0:Rat)<((q.den:Nat):Rat):=by have:=Rat.intCast_lt_intCast.2 (show (0:Int)<((q.den:Nat):Int) by have:=q.den_pos;omega);exact this
 have hs:q<0↔q.num<0:=by
  rw [← Rat.not_le,← Rat.num_nonneg];omega
 by_cases hq:q<0
 · rw [if_pos hq,show ((q.num.natAbs:Nat):Int) = -q.num by have:=hs.1 hq;omega]
   rw [Rat.intCast_neg,Rat.div_def,Rat.neg_mul,← Rat.div_def]
   exact congrArg (fun x => -x) h.symm
 · rw [if_neg hq,show ((q.num.natAbs:Nat):Int)=q.num by have:¬ q.num<0:=fun h=>hq (hs.2 h);omega]
   exact h.symm
end Go.Proofs.YtgcieamfidoaoaaGreatDoor.Fm
/- The next float exactly; order by kinds, exponents, digits; rounded by a wider format first. -/
namespace Go.Proofs.YtgcieamfidoaoaaGreatDoor.Fm
open Dy
set_option maxRecDepth 100000
def sM:Fl→Int
 | .zero _=>0
 | .fin n _ _=>if n then -1 else 1
 | .inf n=>if n then -1 else 1
def Mc (x y:Fl):Int:=if kd x<kd y then -1 else if kd y<kd x then 1 else if xp x<xp y then -1 else if xp y<xp x then 1 else if mn x<mn y then -1 else if mn y<mn x then 1 else 0
def kJ (x y:Fl):Int:=if sM x<sM y then -1 else if sM y<sM x then 1 else sM x*Mc x y
theorem Bh {w:Rat} (h:w≠0):0<(if w<0 then -w else w):=by split<;>grind
end Go.Proofs.YtgcieamfidoaoaaGreatDoor.Fm
