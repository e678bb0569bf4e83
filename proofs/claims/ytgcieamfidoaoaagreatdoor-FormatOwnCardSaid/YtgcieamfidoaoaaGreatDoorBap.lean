/- Formats: digits of a size to a radix, the exponent that fits. -/
import Derived.Test.YtgcieamfidoaoaaGreatDoorBan
set_option linter.all false
set_option maxHeartbeats 8000000
namespace Go.Proofs.YtgcieamfidoaoaaGreatDoor.Fm
open Dy
set_option maxRecDepth 100000
theorem b_pos {b:Nat} (hb:2≤b):(0:Rat)<((b:Int):Rat):=by
 have:((0:Int):Rat)<((b:Int):Rat):=Rat.intCast_lt_intCast.2 (by omega)
 exact this
theorem afi {b:Nat} (hb:2≤b):((b:Int):Rat)≠0:=Rat.ne_of_gt (b_pos hb)
def bp (b:Nat) (e:Int):Rat:=((b:Int):Rat)^e
theorem tC {b:Nat} (hb:2≤b) (e:Int):0<bp b e:=Rat.zpow_pos (b_pos hb)
theorem Md {b:Nat} (hb:2≤b) (e:Int):bp b e≠0:=Rat.ne_of_gt (tC hb e)
theorem Ga {b:Nat} (hb:2≤b) (x y:Int):bp b (x+y)=bp b x*bp b y:=Rat.zpow_add (afi hb) x y
theorem ry (b k:Nat):bp b (k:Int)=(((b^k:Nat):Int):Rat):=by
 unfold bp
 rw [Rat.zpow_natCast]
 induction k with
 | zero=>rfl
 | succ k ih=>rw [Rat.pow_succ,ih,Nat.pow_succ,Int.natCast_mul,Rat.intCast_mul]
theorem Sj (b:Nat):bp b 1=((b:Int):Rat):=by
 have:=ry b 1
 rw [Nat.pow_one] at this
 exact this
theorem VE (b:Nat):bp b 0=1:=by unfold bp;exact Rat.zpow_zero _
theorem y5 {b:Nat} (hb:2≤b) (e:Int):bp b e*bp b (-e)=1:=by
 rw [← Ga hb,show e + -e=0 by omega,VE]
def dg (b:Nat) (s:Rat) (e:Int):Int:=(s*bp b (-e)).floor
theorem jw {b:Nat} (hb:2≤b) {s:Rat} (hs:0≤s) (e:Int):0≤dg b s e:=by
 unfold dg
 rw [acI]
 exact Rat.mul_nonneg hs (Rat.le_of_lt (tC hb _))
theorem Zk {x:Rat} {b:Nat} (hb:2≤b) {y:Rat} (hy:y*((b:Int):Rat)=x):y.floor=x.floor/(b:Int):=by
 have h1:=MN x
 have h2:=MO x
 have hp:=b_pos hb
 generalize x.floor=m at *
 have e1:=Int.mul_ediv_add_emod m b
 have e2:=Int.emod_nonneg m (show (b:Int)≠0 by omega)
 have e3:=Int.emod_lt_of_pos m (show (0:Int)<b by omega)
 generalize hn:m/(b:Int)=n at *
 generalize m%(b:Int)=r at *
 refine Sc ?_ ?_
 · refine Rat.le_of_mul_le_mul_right (c:=((b:Int):Rat)) ?_ hp
   rw [hy]
   refine Rat.le_trans ?_ h1
   rw [← Rat.intCast_mul]
   exact Rat.intCast_le_intCast.2 (by rw [Int.mul_comm];omega)
 · refine Rat.lt_of_mul_lt_mul_right (c:=((b:Int):Rat)) ?_ (Rat.le_of_lt hp)
   rw [hy]
   have h5:((m+1:Int):Rat)≤(((n+1)*b:Int):Rat):=Rat.intCast_le_intCast.2 (by rw [Int.add_mul,Int.mul_comm n];omega)
   rw [Rat.intCast_add,Rat.intCast_mul,Rat.intCast_add] at h5
   exact Rat.not_le.1 fun h6=>Rat.not_lt.2 (Rat.le_trans h5 h6) h2
theorem dg_succ {b:Nat} (hb:2≤b) (s:Rat) (e:Int):dg b s (e+1)=dg b s e/(b:Int):=by
 unfold dg
 refine Zk hb ?_
 rw [Rat.mul_assoc,← Sj,← Ga hb,show -(e+1)+1 = -e by omega]
def Fit (b p:Nat) (lo:Int) (s:Rat) (e:Int):Prop:=lo≤e∧dg b s e<((b^p:Nat):Int)∧(e=lo∨((b^(p-1):Nat):Int)≤dg b s e)
theorem CZ {b:Nat} (hb:2≤b) (s:Rat) (e:Int):∀ k:Nat,dg b s (e+k)=dg b s e/((b^k:Nat):Int)
 | 0=>by rw [Nat.pow_zero];simp
 | k+1=>by
  rw [show e+((k+1:Nat):Int)=(e+k)+1 by omega,dg_succ hb,CZ hb s e k,Nat.pow_succ,Int.natCast_mul,Int.ediv_ediv_of_nonneg (by omega)]
theorem Fit.le {b p:Nat} (hb:2≤b) (hp:1≤p) {lo e f:Int} {s:Rat} (h:Fit b p lo s e) (g:Fit b p lo s f):f≤e:=by
 obtain ⟨h1,h2,h3⟩:=h
 obtain ⟨g1,g2,g3⟩:=g
 by_cases hl:f≤e
 · exact hl
 · exfalso
   obtain ⟨k,hk⟩:∃ k:Nat,f=e+(k+1:Nat):=⟨(f-e-1).toNat,by omega⟩
   subst hk
   rcases g3 with g3 | g3
   · omega
   · rw [CZ hb] at g3
     have h4:dg b s e/((b^(k+1):Nat):Int)<((b^(p-1):Nat):Int):=by
      refine Int.ediv_lt_of_lt_mul (by have:=Nat.pow_pos (n:=k+1) (show 0<b by omega);omega) ?_
      refine Int.lt_of_lt_of_le h2 ?_
      rw [← Int.natCast_mul,← Nat.pow_add]
      exact Int.ofNat_le.2 (Nat.pow_le_pow_right (by omega) (by omega))
     omega
theorem Fit.uniq {b p:Nat} (hb:2≤b) (hp:1≤p) {lo e f:Int} {s:Rat} (h:Fit b p lo s e) (g:Fit b p lo s f):e=f:=Int.le_antisymm (g.le hb hp h) (h.le hb hp g)
theorem VF {b p:Nat} (hb:2≤b) (hp:1≤p) {s:Rat} {e:Int} (h:((b^p:Nat):Int)≤dg b s e):((b^(p-1):Nat):Int)≤dg b s (e+1):=by
 rw [dg_succ hb]
 refine Int.le_ediv_of_mul_le (by omega) ?_
 refine Int.le_trans ?_ h
 rw [← Int.natCast_mul,← Nat.pow_succ,show (p-1).succ=p by omega]
 exact Int.le_refl _
theorem EE {b p:Nat} (hb:2≤b) (hp:1≤p) {s:Rat} {lo:Int}:∀ k:Nat,dg b s (lo+k)<((b^p:Nat):Int)→∃ e,Fit b p lo s e∧e≤lo+k
 | 0,h=>⟨lo,⟨Int.le_refl _,by rw [show lo+((0:Nat):Int)=lo by omega] at h;exact h,.inl rfl⟩,by omega⟩
 | k+1,h=>by
  by_cases h1:dg b s (lo+k)<((b^p:Nat):Int)
  · obtain ⟨e,h2,h3⟩:=EE hb hp k h1
    exact ⟨e,h2,by omega⟩
  · have h2:=VF hb hp (s:=s) (e:=lo+k) (by omega)
    rw [show lo+(k:Int)+1=lo+((k+1:Nat):Int) by omega] at h2
    exact ⟨lo+((k+1:Nat):Int),⟨by omega,h,.inr h2⟩,Int.le_refl _⟩
theorem kW {b p:Nat} (hb:2≤b) (hp:1≤p) {s:Rat} (hs:0≤s) (lo:Int):∃ e,Fit b p lo s e:=by
 have h0:=jw hb hs lo
 obtain ⟨n,hn⟩:=Int.eq_ofNat_of_zero_le h0
 obtain ⟨e,h,_⟩:=EE hb hp (s:=s) (lo:=lo) n (by
  rw [CZ hb,hn]
  have h1:n<b^n:=Nat.lt_pow_self (by omega)
  have h2:((n:Nat):Int)/((b^n:Nat):Int)=0:=Int.ediv_eq_zero_of_lt (by omega) (by omega)
  rw [h2]
  have:=Nat.pow_pos (n:=p) (show 0<b by omega)
  omega)
 exact ⟨e,h⟩
theorem Fit.above {b p:Nat} (hb:2≤b) (hp:1≤p) {lo e f:Int} {s:Rat} (h:Fit b p lo s f) (he:lo≤e) (g:((b^p:Nat):Int)≤dg b s e):e<f:=by
 obtain ⟨h1,h2,_⟩:=h
 by_cases hl:e<f
 · exact hl
 · exfalso
   obtain ⟨k,hk⟩:∃ k:Nat,e=f+k:=⟨(e-f).toNat,by omega⟩
   subst hk
   rw [CZ hb] at g
   have hk0:=Nat.pow_pos (n:=k) (show 0<b by omega)
   have h3:dg b s f/((b^k:Nat):Int)<((b^p:Nat):Int):=by
    refine Int.ediv_lt_of_lt_mul (by omega) (Int.lt_of_lt_of_le h2 ?_)
    rw [← Int.natCast_mul]
    exact Int.ofNat_le.2 (Nat.le_mul_of_pos_right _ hk0)
   omega
theorem Fit.below {b p:Nat} (hb:2≤b) (hp:1≤p) {lo e f:Int} {s:Rat} (h:Fit b p lo s f) (he:lo<e) (g:dg b s e<((b^(p-1):Nat):Int)):f<e:=by
 obtain ⟨h1,h2,h3⟩:=h
 by_cases hl:f<e
 · exact hl
 · exfalso
   rcases h3 with h3 | h3
   · omega
   · obtain ⟨k,hk⟩:∃ k:Nat,f=e+k:=⟨(f-e).toNat,by omega⟩
     subst hk
     rw [CZ hb] at h3
     have hk0:=Nat.pow_pos (n:=k) (show 0<b by omega)
     have h4:dg b s e/((b^k:Nat):Int)<((b^(p-1):Nat):Int):=by
      refine Int.ediv_lt_of_lt_mul (by omega) (Int.lt_of_lt_of_le g ?_)
      rw [← Int.natCast_mul]
      exact Int.ofNat_le.2 (Nat.le_mul_of_pos_right _ hk0)
     omega
def Nf (b p:Nat) (lo m e:Int):Prop:=lo≤e∧0<m∧m<((b^p:Nat):Int)∧(e=lo∨((b^(p-1):Nat):Int)≤m)
def vl (b:Nat) (m e:Int):Rat:=(m:Rat)*bp b e
theorem y7 {b:Nat} (hb:2≤b) (m e:Int):dg b (vl b m e) e=m:=by
 unfold dg vl
 rw [Rat.mul_assoc,y5 hb,Rat.mul_one]
 exact QN m
theorem Nf.fit {b p:Nat} (hb:2≤b) {lo m e:Int} (h:Nf b p lo m e):Fit b p lo (vl b m e) e:=by
 obtain ⟨h1,h2,h3,h4⟩:=h
 exact ⟨h1,by rw [y7 hb];exact h3,by rw [y7 hb];exact h4⟩
theorem Nf.uniq {b p:Nat} (hb:2≤b) (hp:1≤p) {lo m e n f:Int} (h:Nf b p lo m e) (g:Nf b p lo n f) (heq:vl b m e=vl b n f):m=n∧e=f:=by
 have h1:=h.fit hb
 rw [heq] at h1
 obtain rfl:=Fit.uniq hb hp h1 (g.fit hb)
 have h2:=y7 hb m e
 rw [heq,y7 hb] at h2
 exact ⟨h2.symm,rfl⟩
theorem QL {b:Nat} (hb:2≤b) (m e:Int):vl b (m*b) e=vl b m (e+1):=by
 unfold vl
 rw [Ga hb,Sj,Rat.intCast_mul]
 grind
theorem uh {b:Nat} (hb:2≤b) (m e:Int) (k:Nat):vl b (m*((b^k:Nat):Int)) e=vl b m (e+k):=by
 unfold vl
 rw [Ga hb,ry,Rat.intCast_mul]
 grind
theorem pU {b:Nat} (hb:2≤b) {m n e:Int}:vl b m e<vl b n e↔m<n:=by
 unfold vl
 rw [Rat.mul_lt_mul_right (tC hb e),Rat.intCast_lt_intCast]
theorem pV {b:Nat} (hb:2≤b) {m n e:Int}:vl b m e≤vl b n e↔m≤n:=by
 rw [← Rat.not_lt,pU hb,Int.not_lt]
theorem Nf.wC {b p:Nat} (hb:2≤b) (hp:1≤p) {lo m e n f:Int} (h:Nf b p lo m e) (g:Nf b p lo n f) (hef:e<f):vl b m e<vl b n f:=by
 obtain ⟨h1,h2,h3,h4⟩:=h
 obtain ⟨g1,g2,g3,g4⟩:=g
 obtain ⟨k,hk⟩:∃ k:Nat,f=e+(k+1:Nat):=⟨(f-e-1).toNat,by omega⟩
 subst hk
 rw [← uh hb,pU hb]
 refine Int.lt_of_lt_of_le h3 ?_
 rcases g4 with g4 | g4
 · omega
 · refine Int.le_trans ?_ (Int.mul_le_mul_of_nonneg_right g4 (by omega))
   rw [← Int.natCast_mul,← Nat.pow_add]
   exact Int.ofNat_le.2 (Nat.pow_le_pow_right (by omega) (by omega))
theorem Gb {b:Nat} (hb:2≤b) (s:Rat) (e:Int):s*bp b (-e)*bp b e=s:=by
 have:=y5 hb e
 grind
theorem vK {b:Nat} (hb:2≤b) (s:Rat) (e:Int):vl b (dg b s e) e≤s:=by
 have h:=Rat.mul_le_mul_of_nonneg_right (MN (s*bp b (-e))) (Rat.le_of_lt (tC hb e))
 rw [Gb hb] at h
 exact h
theorem zM {b:Nat} (hb:2≤b) (s:Rat) (e:Int):s<vl b (dg b s e+1) e:=by
 have h:=(Rat.mul_lt_mul_right (tC hb e)).2 (MO (s*bp b (-e)))
 rw [Gb hb] at h
 unfold vl
 rw [Rat.intCast_add]
 exact h
def nK (b p:Nat) (m e:Int):Int × Int:=if m=((b^p:Nat):Int) then (((b^(p-1):Nat):Int),e+1) else (m,e)
theorem oQ {b p:Nat} (hb:2≤b) (hp:1≤p) (m e:Int):vl b (nK b p m e).1 (nK b p m e).2=vl b m e:=by
 unfold nK
 split
 · next h =>
   subst h
   show vl b ((b^(p-1):Nat):Int) (e+1)=_
   rw [← QL hb,← Int.natCast_mul,← Nat.pow_succ,show (p-1).succ=p by omega]
 · rfl
theorem zf {b p:Nat} (hb:2≤b) (hp:1≤p) {lo m e:Int} (h1:lo≤e) (h2:0<m) (h3:m≤((b^p:Nat):Int)) (h4:e=lo∨((b^(p-1):Nat):Int)≤m):Nf b p lo (nK b p m e).1 (nK b p m e).2:=by
 unfold nK
 split
 · next h =>
   have hk:=Nat.pow_pos (n:=p-1) (show 0<b by omega)
   refine ⟨by show lo≤e+1;omega,by show (0:Int)<((b^(p-1):Nat):Int);omega,?_,.inr (Int.le_refl _)⟩
   exact Int.ofNat_lt.2 (Nat.pow_lt_pow_right (by omega) (by omega))
 · next h=>exact ⟨h1,h2,by show m<_;omega,h4⟩
theorem oP {b p:Nat} (hb:2≤b) (hp:1≤p) {lo m e f:Int} {s:Rat} (h:Fit b p lo s e) (g:Nf b p lo m f):vl b m f≤vl b (dg b s e) e∨vl b (dg b s e+1) e≤vl b m f:=by
 obtain ⟨h1,h2,h3⟩:=h
 obtain ⟨g1,g2,g3,g4⟩:=g
 have pw:∀ k:Nat,∀ x:Int,((b^(p-1):Nat):Int)≤x→((b^p:Nat):Int)≤x*((b^(k+1):Nat):Int):=fun k x hx=>by
  refine Int.le_trans ?_ (Int.mul_le_mul_of_nonneg_right hx (by omega))
  rw [← Int.natCast_mul,← Nat.pow_add]
  exact Int.ofNat_le.2 (Nat.pow_le_pow_right (by omega) (by omega))
 rcases Int.lt_trichotomy f e with hl | hl | hl
 · left
   obtain ⟨k,hk⟩:∃ k:Nat,e=f+(k+1:Nat):=⟨(e-f-1).toNat,by omega⟩
   rcases h3 with h3 | h3
   · omega
   · have h4:=pw k _ h3
     generalize dg b s e=n at *
     subst hk
     rw [← uh hb,pV hb]
     omega
 · subst hl
   rw [pV hb,pV hb]
   omega
 · right
   obtain ⟨k,hk⟩:∃ k:Nat,f=e+(k+1:Nat):=⟨(f-e-1).toNat,by omega⟩
   subst hk
   rcases g4 with g4 | g4
   · omega
   · have h4:=pw k _ g4
     rw [← uh hb,pV hb]
     omega
theorem Nf.next {b p:Nat} (hb:2≤b) (hp:1≤p) {lo m e:Int} (h:Nf b p lo m e):Nf b p lo (nK b p (m+1) e).1 (nK b p (m+1) e).2:=by
 obtain ⟨h1,h2,h3,h4⟩:=h
 exact zf hb hp h1 (by omega) (by omega) (by omega)
theorem kX {b:Nat} (hb:2≤b) {m e:Int}:0<vl b m e↔0<m:=by
 have:=pU hb (m:=0) (n:=m) (e:=e)
 rw [show vl b 0 e=0 by unfold vl;exact Rat.zero_mul _] at this
 exact this
def nR (d:Nat) (neg odd:Bool) (r:Rat):Bool :=
 if d=0 then decide (1/2<r)||decide (r=1/2)&&odd else if d=1 then decide (1/2≤r) else if d=3 then !neg&&decide (0<r) else if d=4 then neg&&decide (0<r) else false
def rest (b:Nat) (s:Rat) (e:Int):Rat:=s*bp b (-e)-((dg b s e:Int):Rat)
theorem Bl {b:Nat} (s:Rat) (e:Int):0≤rest b s e∧rest b s e<1:=by
 unfold rest dg
 have h1:=MN (s*bp b (-e))
 have h2:=MO (s*bp b (-e))
 generalize (s*bp b (-e)).floor=n at *
 generalize s*bp b (-e)=x at *
 constructor<;>grind
theorem qB {b:Nat} (hb:2≤b) {s:Rat} {e:Int}:rest b s e=0↔vl b (dg b s e) e=s:=by
 have h:=Gb hb s e
 unfold rest vl
 generalize dg b s e=n at *
 constructor
 · intro h1
   rw [← h,show s*bp b (-e)=(n:Rat) by grind]
 · intro h1
   have h2:=y5 hb e
   rw [← h1]
   grind
def lY (b d:Nat) (neg:Bool) (s:Rat) (e:Int):Int:=dg b s e+if nR d neg (decide (dg b s e%2=1)) (rest b s e) then 1 else 0
theorem uP (b d:Nat) (neg:Bool) (s:Rat) (e:Int):lY b d neg s e=dg b s e∨lY b d neg s e=dg b s e+1:=by
 unfold lY
 split
 · exact .inr rfl
 · exact .inl (Int.add_zero _)
theorem Mh {b p:Nat} (hb:2≤b) (d:Nat) (neg:Bool) (m e:Int):lY b d neg (vl b m e) e=m:=by
 have h1:=y7 hb m e
 have h2:rest b (vl b m e) e=0:=(qB hb).2 (by rw [h1])
 unfold lY
 rw [h2,h1]
 have h3:nR d neg (decide (m%2=1)) 0=false:=by
  unfold nR
  simp only [show ¬ (1:Rat)/2<0 by grind,show ¬ (0:Rat)=1/2 by grind,show ¬ (1:Rat)/2≤0 by grind,show ¬ (0:Rat)<0 by grind,decide_false,Bool.and_false,Bool.false_and,Bool.or_false]
  split
  · rfl
  · split
    · rfl
    · split
      · rfl
      · split<;>rfl
 rw [h3]
 simp
theorem OT {d:Nat} {neg odd:Bool} {r r':Rat} (h:r≤r') (g:nR d neg odd r=true):nR d neg odd r'=true:=by
 unfold nR at *
 split at g
 · next hd =>
   rw [if_pos hd]
   rw [Bool.or_eq_true,Bool.and_eq_true,decide_eq_true_iff,decide_eq_true_iff] at g ⊢
   rcases g with g | ⟨g,go⟩
   · left;grind
   · by_cases h2:r'=1/2
     · exact .inr ⟨h2,go⟩
     · left;grind
 · next hd =>
   rw [if_neg hd]
   split at g
   · next h1 =>
     rw [if_pos h1]
     rw [decide_eq_true_iff] at g ⊢
     exact Rat.le_trans g h
   · next h1 =>
     rw [if_neg h1]
     split at g
     · next h3 =>
       rw [if_pos h3]
       rw [Bool.and_eq_true,decide_eq_true_iff] at g ⊢
       exact ⟨g.1,by have:=g.2;grind⟩
     · next h3 =>
       rw [if_neg h3]
       split at g
       · next h4 =>
         rw [if_pos h4]
         rw [Bool.and_eq_true,decide_eq_true_iff] at g ⊢
         exact ⟨g.1,by have:=g.2;grind⟩
       · cases g
theorem WB {b:Nat} (hb:2≤b) {s:Rat} {n e:Int} (h1:vl b n e≤s) (h2:s<vl b (n+1) e):dg b s e=n:=by
 have h3:=vK hb s e
 have h4:=zM hb s e
 have a:n<dg b s e+1:=(pU hb).1 (Rat.not_le.1 fun h6=>Rat.not_lt.2 (Rat.le_trans h6 h1) h4)
 have c:dg b s e<n+1:=(pU hb).1 (Rat.not_le.1 fun h6=>Rat.not_lt.2 (Rat.le_trans h6 h3) h2)
 omega
theorem Fit.same {b p:Nat} (hb:2≤b) {lo e:Int} {s t:Rat} (h:Fit b p lo s e) (h1:s≤t) (h2:t<vl b (dg b s e+1) e):Fit b p lo t e∧dg b t e=dg b s e:=by
 have h3:=WB hb (s:=t) (n:=dg b s e) (e:=e) (Rat.le_trans (vK hb s e) h1) h2
 obtain ⟨a,c,d⟩:=h
 exact ⟨⟨a,by rw [h3];exact c,by rw [h3];exact d⟩,h3⟩
theorem OU {b:Nat} (hb:2≤b) {s t:Rat} {e:Int} (h:s≤t) (hd:dg b t e=dg b s e):rest b s e≤rest b t e:=by
 have:=Rat.mul_le_mul_of_nonneg_right h (Rat.le_of_lt (tC hb (-e)))
 unfold rest
 rw [hd]
 grind
theorem xR {b p:Nat} (hb:2≤b) (hp:1≤p) {lo e f m:Int} {t:Rat} (ht0:0≤t) (ht:Fit b p lo t f) (g:Nf b p lo m e) (h:vl b m e≤t):vl b m e≤vl b (dg b t f) f:=by
 rcases oP hb hp ht g with h1 | h1
 · exact h1
 · have:=zM hb t f
   exact absurd (Rat.le_trans h1 h) (Rat.not_le.2 this)
theorem Jh {b p:Nat} (hb:2≤b) (hp:1≤p) {lo e f:Int} {s t:Rat} (d:Nat) (neg:Bool) (h0:0≤s) (hs:Fit b p lo s e) (ht:Fit b p lo t f) (hst:s≤t) :
  vl b (lY b d neg s e) e≤vl b (lY b d neg t f) f:=by
 have ht0:0≤t:=Rat.le_trans h0 hst
 have hLt:vl b (dg b t f) f≤vl b (lY b d neg t f) f:=by
  rw [pV hb]
  rcases uP b d neg t f with h | h<;>omega
 have hn:=jw hb h0 e
 have hnt:=jw hb ht0 f
 have hLL:vl b (dg b s e) e≤vl b (dg b t f) f:=by
  by_cases hz:dg b s e=0
  · rw [hz,show vl b 0 e=vl b 0 f by unfold vl;rw [Rat.intCast_zero,Rat.zero_mul,Rat.zero_mul],pV hb]
    exact hnt
  · exact xR hb hp ht0 ht ⟨hs.1,by omega,hs.2.1,hs.2.2⟩ (Rat.le_trans (vK hb s e) hst)
 by_cases hu:t<vl b (dg b s e+1) e
 · obtain ⟨h1,h2⟩:=hs.same hb hst hu
   obtain rfl:=Fit.uniq hb hp h1 ht
   rw [pV hb]
   unfold lY
   rw [h2]
   have hr:=OU hb hst h2
   split
   · next g=>rw [if_pos (OT hr g)];exact Int.le_refl _
   · split<;>omega
 · have hu:=Rat.not_lt.1 hu
   rcases uP b d neg s e with h | h
   · rw [h];exact Rat.le_trans hLL hLt
   · rw [h]
     refine Rat.le_trans ?_ hLt
     have g:=zf hb hp (m:=dg b s e+1) hs.1 (by omega) (by have:=hs.2.1;omega) (by rcases hs.2.2 with h | h;exact .inl h;exact .inr (by omega))
     have:=xR hb hp ht0 ht g (by rw [oQ hb hp];exact hu)
     rwa [oQ hb hp] at this
theorem Nf.wide {b p:Nat} (hb:2≤b) (hp:1≤p) {lo m e:Int} (k:Nat) (h:Nf b p lo m e):Nf b (p+k) (lo-k) (m*((b^k:Nat):Int)) (e-k)∧vl b (m*((b^k:Nat):Int)) (e-k)=vl b m e:=by
 obtain ⟨h1,h2,h3,h4⟩:=h
 have hk:=Nat.pow_pos (n:=k) (show 0<b by omega)
 refine ⟨⟨by omega,Int.mul_pos h2 (by omega),?_,?_⟩,?_⟩
 · rw [Nat.pow_add,Int.natCast_mul]
   exact Int.mul_lt_mul_of_pos_right h3 (by omega)
 · rcases h4 with h4 | h4
   · left;omega
   · right
     rw [show p+k-1=(p-1)+k by omega,Nat.pow_add,Int.natCast_mul]
     exact Int.mul_le_mul_of_nonneg_right h4 (by omega)
 · rw [uh hb,show e-k+k=e by omega]
theorem OV {d:Nat} {neg odd:Bool} {r:Rat} (h:d=3∧neg=false∨d=4∧neg=true):nR d neg odd r=decide (0<r):=by
 unfold nR
 rcases h with ⟨rfl,rfl⟩ | ⟨rfl,rfl⟩<;>simp
theorem OW {d:Nat} {neg odd:Bool} {r:Rat} (h:d=2∨d=3∧neg=true∨d=4∧neg=false):nR d neg odd r=false:=by
 unfold nR
 rcases h with rfl | ⟨rfl,rfl⟩ | ⟨rfl,rfl⟩<;>simp
theorem tu {b d:Nat} {neg:Bool} (s:Rat) (e:Int) (h:d=2∨d=3∧neg=true∨d=4∧neg=false):lY b d neg s e=dg b s e:=by
 unfold lY
 rw [OW h]
 simp
theorem tq {b d:Nat} {neg:Bool} (s:Rat) (e:Int) (h:d=3∧neg=false∨d=4∧neg=true):lY b d neg s e=dg b s e+if 0<rest b s e then 1 else 0:=by
 unfold lY
 rw [OV h]
 by_cases h1:0<rest b s e<;>simp [h1]
theorem xS {b:Nat} (hb:2≤b) {s:Rat} {e:Int}:0<rest b s e↔vl b (dg b s e) e<s:=by
 have h1:=Bl (b:=b) s e
 have h2:=qB hb (s:=s) (e:=e)
 have h3:=vK hb s e
 constructor
 · intro h
   refine Rat.not_le.1 fun h4=>?_
   have:=h2.2 (Rat.le_antisymm h3 h4)
   rw [this] at h
   exact absurd h Rat.lt_irrefl
 · intro h
   refine Rat.not_le.1 fun h4=>?_
   have:=h2.1 (Rat.le_antisymm h4 h1.1)
   rw [this] at h
   exact absurd h Rat.lt_irrefl
inductive Fl where
 | zero (neg:Bool)
 | fin (neg:Bool) (m e:Int)
 | inf (neg:Bool)
def bO (b p:Nat) (lo hi:Int):Fl→Prop
 | .fin _ m e=>Nf b p lo m e∧e≤hi
 | _=>True
def BX (d:Nat) (neg:Bool):Bool:=if d=2 then false else if d=3 then !neg else if d=4 then neg else true
def res (b p:Nat) (hi:Int) (d:Nat) (neg:Bool) (m e:Int):Fl :=
 if (nK b p m e).1=0 then .zero neg else if (nK b p m e).2≤hi then .fin neg (nK b p m e).1 (nK b p m e).2 else if BX d neg then .inf neg else .fin neg (((b^p:Nat):Int)-1) hi
def Rd (b p:Nat) (lo hi:Int) (d:Nat) (q:Rat) (x:Fl):Prop :=
 q=0∧x = .zero false∨q≠0∧∃ e,Fit b p lo (if q<0 then -q else q) e∧x=res b p hi d (decide (q<0)) (lY b d (decide (q<0)) (if q<0 then -q else q) e) e
theorem nL {b p:Nat} (hb:2≤b) (hp:1≤p) {lo hi:Int} (h:lo≤hi):Nf b p lo (((b^p:Nat):Int)-1) hi:=by
 have h1:b^p=b^(p-1)*b:=by rw [← Nat.pow_succ,show (p-1).succ=p by omega]
 have hk:=Nat.pow_pos (n:=p-1) (show 0<b by omega)
 have h2:b^(p-1)*2≤b^p:=by rw [h1];exact Nat.mul_le_mul_left _ hb
 exact ⟨h,by omega,by omega,.inr (by omega)⟩
theorem BZ {b p:Nat} (hb:2≤b) {lo e:Int} {s:Rat} (d:Nat) (neg:Bool) (h0:0≤s) (h:Fit b p lo s e):0≤lY b d neg s e∧lY b d neg s e≤((b^p:Nat):Int)∧(e=lo∨((b^(p-1):Nat):Int)≤lY b d neg s e):=by
 have hn:=jw hb h0 e
 obtain ⟨h1,h2,h3⟩:=h
 rcases uP b d neg s e with h4 | h4<;>rw [h4]<;>refine ⟨by omega,by omega,?_⟩<;>rcases h3 with h3 | h3
 · exact .inl h3
 · exact .inr h3
 · exact .inl h3
 · exact .inr (by omega)
theorem Zl {b p:Nat} (hb:2≤b) (hp:1≤p) {lo hi m e:Int} (d:Nat) (neg:Bool) (hl:lo≤hi) (he:lo≤e) (h0:0≤m) (h1:m≤((b^p:Nat):Int)) (h2:e=lo∨((b^(p-1):Nat):Int)≤m):bO b p lo hi (res b p hi d neg m e):=by
 unfold res
 split
 · trivial
 · next hz =>
   have hk:=Nat.pow_pos (n:=p) (show 0<b by omega)
   have hm:0<m:=by
    rcases Int.lt_or_le 0 m with h | h
    · exact h
    · obtain rfl:m=0:=by omega
      exfalso;apply hz
      unfold nK
      rw [if_neg (by omega)]
   have h3:=zf hb hp he hm h1 h2
   split
   · next h4=>exact ⟨h3,h4⟩
   · split
     · trivial
     · exact ⟨nL hb hp hl,Int.le_refl _⟩
theorem Rd.ok {b p:Nat} (hb:2≤b) (hp:1≤p) {lo hi:Int} {d:Nat} {q:Rat} {x:Fl} (hl:lo≤hi) (h:Rd b p lo hi d q x):bO b p lo hi x:=by
 rcases h with ⟨_,rfl⟩ | ⟨hq,e,hf,rfl⟩
 · trivial
 · have h0:0≤(if q<0 then -q else q):=by split<;>grind
   obtain ⟨a,c,f⟩:=BZ hb d (decide (q<0)) h0 hf
   exact Zl hb hp d _ hl hf.1 a c f
theorem Rd.uniq {b p:Nat} (hb:2≤b) (hp:1≤p) {lo hi:Int} {d:Nat} {q:Rat} {x y:Fl} (h:Rd b p lo hi d q x) (g:Rd b p lo hi d q y):x=y:=by
 rcases h with ⟨h1,rfl⟩ | ⟨h1,e,h2,rfl⟩<;>rcases g with ⟨g1,rfl⟩ | ⟨g1,f,g2,rfl⟩
 · rfl
 · exact absurd h1 g1
 · exact absurd g1 h1
 · obtain rfl:=Fit.uniq hb hp h2 g2
   rfl
theorem Rd.own {b p:Nat} (hb:2≤b) (hp:1≤p) {lo hi m e:Int} (d:Nat) (neg:Bool) (h:Nf b p lo m e) (he:e≤hi):Rd b p lo hi d (if neg then -vl b m e else vl b m e) (.fin neg m e):=by
 have hv:0<vl b m e:=(kX hb).2 h.2.1
 have h1:lY b d neg (vl b m e) e=m:=Mh (p:=p) hb d neg m e
 have h2:res b p hi d neg m e = .fin neg m e:=by
  unfold res nK
  have:=h.2.2.1
  have:=h.2.1
  rw [if_neg (show ¬ m=((b^p:Nat):Int) by omega)]
  show (if m=0 then _ else if e≤hi then Fl.fin neg m e else _)=_
  rw [if_neg (by omega),if_pos he]
 cases neg with
 | false =>
  refine .inr ⟨by show vl b m e≠0;exact Rat.ne_of_gt hv,e,?_,?_⟩
  · show Fit b p lo (if vl b m e<0 then _ else vl b m e) e
    rw [if_neg (Rat.not_lt.2 (Rat.le_of_lt hv))];exact h.fit hb
  · show _=res b p hi d (decide (vl b m e<0)) (lY b d (decide (vl b m e<0)) (if vl b m e<0 then _ else vl b m e) e) e
    rw [if_neg (Rat.not_lt.2 (Rat.le_of_lt hv)),decide_eq_false (Rat.not_lt.2 (Rat.le_of_lt hv)),h1,h2]
 | true =>
  have hn : -vl b m e<0:=by grind
  refine .inr ⟨by show -vl b m e≠0;grind,e,?_,?_⟩
  · show Fit b p lo (if -vl b m e<0 then - -vl b m e else _) e
    rw [if_pos hn,Rat.neg_neg];exact h.fit hb
  · show _=res b p hi d (decide (-vl b m e<0)) (lY b d (decide (-vl b m e<0)) (if -vl b m e<0 then - -vl b m e else _) e) e
    rw [if_pos hn,decide_eq_true hn,Rat.neg_neg,h1,h2]
def sv (neg:Bool) (v:Rat):Rat:=if neg then -v else v
def ext (b p:Nat) (hi:Int):Fl→Rat
 | .zero _=>0
 | .fin neg m e=>sv neg (vl b m e)
 | .inf neg=>sv neg (vl b ((b^p:Nat):Int) hi)
def nV (b p:Nat) (hi:Int) (d:Nat) (neg:Bool) (v:Rat):Rat:=if v<vl b ((b^p:Nat):Int) hi then v else if BX d neg then vl b ((b^p:Nat):Int) hi else vl b (((b^p:Nat):Int)-1) hi
theorem Fq {b:Nat} (hb:2≤b) {m e f:Int} (hm:0≤m) (h:e≤f):vl b m e≤vl b m f:=by
 obtain ⟨k,hk⟩:∃ k:Nat,f=e+k:=⟨(f-e).toNat,by omega⟩
 subst hk
 rw [← uh hb,pV hb]
 have:=Nat.pow_pos (n:=k) (show 0<b by omega)
 have h9:=Int.mul_le_mul_of_nonneg_left (show (1:Int)≤((b^k:Nat):Int) by omega) hm
 rwa [Int.mul_one] at h9
def Dg (b p:Nat) (lo m e:Int):Prop:=lo≤e∧0≤m∧m≤((b^p:Nat):Int)∧(e=lo∨((b^(p-1):Nat):Int)≤m)
theorem Dg.nf {b p:Nat} (hb:2≤b) (hp:1≤p) {lo m e:Int} (h:Dg b p lo m e) (hz:(nK b p m e).1≠0):Nf b p lo (nK b p m e).1 (nK b p m e).2:=by
 obtain ⟨h1,h2,h3,h4⟩:=h
 have hk:=Nat.pow_pos (n:=p) (show 0<b by omega)
 refine zf hb hp h1 ?_ h3 h4
 rcases Int.lt_or_le 0 m with h | h
 · exact h
 · obtain rfl:m=0:=by omega
   exfalso;apply hz
   unfold nK
   rw [if_neg (by omega)]
theorem Zm {b p:Nat} (hb:2≤b) (hp:1≤p) (hi:Int):vl b ((b^(p-1):Nat):Int) (hi+1)=vl b ((b^p:Nat):Int) hi:=by
 rw [← QL hb,← Int.natCast_mul,← Nat.pow_succ,show (p-1).succ=p by omega]
theorem Nf.gT {b p:Nat} (hb:2≤b) {lo hi m e:Int} (h:Nf b p lo m e) (he:e≤hi):vl b m e<vl b ((b^p:Nat):Int) hi:=by
 have h1:=(pU hb (e:=e)).2 h.2.2.1
 have h2:=Fq hb (m:=((b^p:Nat):Int)) (by omega) he
 exact Rat.not_le.1 fun h6=>Rat.not_lt.2 (Rat.le_trans h2 h6) h1
theorem Nf.Ji {b p:Nat} (hb:2≤b) (hp:1≤p) {lo hi m e:Int} (hl:lo≤hi) (h:Nf b p lo m e) (he:hi<e):vl b ((b^p:Nat):Int) hi≤vl b m e:=by
 rw [← Zm hb hp]
 obtain ⟨h1,h2,h3,h4⟩:=h
 rcases h4 with h4 | h4
 · omega
 · exact Rat.le_trans (Fq hb (by omega) (show hi+1≤e by omega)) ((pV hb).2 h4)
theorem Nf.wE {b p:Nat} (hb:2≤b) (hp:1≤p) {lo hi m e:Int} (hl:lo≤hi) (h:Nf b p lo m e) (he:e≤hi):vl b m e≤vl b (((b^p:Nat):Int)-1) hi:=by
 rcases Int.lt_or_eq_of_le he with h1 | rfl
 · exact Rat.le_of_lt (h.wC hb hp (nL hb hp hl) h1)
 · rw [pV hb];have:=h.2.2.1;omega
theorem nA (b:Nat) (e:Int):vl b 0 e=0:=by unfold vl;rw [Rat.intCast_zero,Rat.zero_mul]
theorem oh {b p:Nat} (hb:2≤b) (hi:Int):0<vl b ((b^p:Nat):Int) hi:=(kX hb).2 (by have:=Nat.pow_pos (n:=p) (show 0<b by omega);omega)
theorem xU {b p:Nat} (hb:2≤b) (hp:1≤p) {lo hi m e:Int} (d:Nat) (neg:Bool) (hl:lo≤hi) (h:Dg b p lo m e):ext b p hi (res b p hi d neg m e)=sv neg (nV b p hi d neg (vl b m e)):=by
 have hv:=oQ hb hp m e
 unfold res
 split
 · next hz =>
   rw [hz,nA] at hv
   unfold nV
   rw [← hv,if_pos (oh hb hi)]
   unfold sv ext
   cases neg<;>simp
 · next hz =>
   have h1:=h.nf hb hp hz
   split
   · next he =>
     have h2:=h1.gT hb he
     rw [hv] at h2
     unfold nV
     rw [if_pos h2]
     show sv neg (vl b (nK b p m e).1 (nK b p m e).2)=_
     rw [hv]
   · next he =>
     have h2:=h1.Ji hb hp hl (by omega)
     rw [hv] at h2
     unfold nV
     rw [if_neg (Rat.not_lt.2 h2)]
     split<;>rfl
theorem C8 {b p:Nat} (hb:2≤b) (hp:1≤p) {lo hi m e n f:Int} (d:Nat) (neg:Bool) (hl:lo≤hi) (h:Dg b p lo m e) (g:vl b m e≤vl b n f):nV b p hi d neg (vl b m e)≤nV b p hi d neg (vl b n f):=by
 have hv:=oQ hb hp m e
 unfold nV
 by_cases h1:vl b m e<vl b ((b^p:Nat):Int) hi
 · rw [if_pos h1]
   split
   · exact g
   · split
     · exact Rat.le_of_lt h1
     · by_cases hz:(nK b p m e).1=0
       · rw [hz,nA] at hv
         rw [← hv]
         exact Rat.le_of_lt ((kX hb).2 (nL hb hp hl).2.1)
       · have h2:=h.nf hb hp hz
         have h3:(nK b p m e).2≤hi:=by
          refine Int.not_lt.1 fun h4=>?_
          have:=h2.Ji hb hp hl h4
          rw [hv] at this
          exact absurd h1 (Rat.not_lt.2 this)
         have:=h2.wE hb hp hl h3
         rwa [hv] at this
 · rw [if_neg h1,if_neg (fun h2=>h1 (Rat.not_le.1 fun h6=>Rat.not_lt.2 (Rat.le_trans h6 g) h2))]
   exact Rat.le_refl
theorem rU {b p:Nat} (hb:2≤b) (hp:1≤p) {lo hi:Int} (d:Nat) (neg:Bool) (hl:lo≤hi) {v:Rat} (h:0≤v):0≤nV b p hi d neg v:=by
 unfold nV
 split
 · exact h
 · split
   · exact Rat.le_of_lt (oh hb hi)
   · exact Rat.le_of_lt ((kX hb).2 (nL hb hp hl).2.1)
theorem rM {b p:Nat} (hb:2≤b) {lo e:Int} {s:Rat} (d:Nat) (neg:Bool) (h0:0≤s) (h:Fit b p lo s e):Dg b p lo (lY b d neg s e) e:=⟨h.1,BZ hb d neg h0 h⟩
theorem zA {b:Nat} (hb:2≤b) {m e:Int} (h:0≤m):0≤vl b m e:=by
 have:=(pV hb (m:=0) (n:=m) (e:=e)).2 h
 rwa [nA] at this
theorem Rd.pos {b p:Nat} (hb:2≤b) (hp:1≤p) {lo hi:Int} {d:Nat} {q:Rat} {x:Fl} (hl:lo≤hi) (h:Rd b p lo hi d q x) (hq:0<q):∃ e,Fit b p lo q e∧ext b p hi x=nV b p hi d false (vl b (lY b d false q e) e):=by
 rcases h with ⟨h1,_⟩ | ⟨_,e,h2,h3⟩
 · rw [h1] at hq;exact absurd hq Rat.lt_irrefl
 · have hn:¬ q<0:=Rat.not_lt.2 (Rat.le_of_lt hq)
   rw [if_neg hn] at h2 h3
   rw [decide_eq_false hn] at h3
   refine ⟨e,h2,?_⟩
   rw [h3,xU hb hp d false hl (rM hb d false (Rat.le_of_lt hq) h2)]
   rfl
theorem Rd.neg {b p:Nat} (hb:2≤b) (hp:1≤p) {lo hi:Int} {d:Nat} {q:Rat} {x:Fl} (hl:lo≤hi) (h:Rd b p lo hi d q x) (hq:q<0):∃ e,Fit b p lo (-q) e∧ext b p hi x = -nV b p hi d true (vl b (lY b d true (-q) e) e):=by
 rcases h with ⟨h1,_⟩ | ⟨_,e,h2,h3⟩
 · rw [h1] at hq;exact absurd hq Rat.lt_irrefl
 · rw [if_pos hq] at h2 h3
   rw [decide_eq_true hq] at h3
   refine ⟨e,h2,?_⟩
   rw [h3,xU hb hp d true hl (rM hb d true (by grind) h2)]
   rfl
theorem Rd.mono {b p:Nat} (hb:2≤b) (hp:1≤p) {lo hi:Int} {d:Nat} {q r:Rat} {x y:Fl} (hl:lo≤hi) (h:Rd b p lo hi d q x) (g:Rd b p lo hi d r y) (hqr:q≤r):ext b p hi x≤ext b p hi y:=by
 have Mj:∀ {q:Rat} {x:Fl},Rd b p lo hi d q x→(0≤q→0≤ext b p hi x)∧(q≤0→ext b p hi x≤0):=fun {q x} h=>by
  by_cases h0:q=0
  · rcases h with ⟨_,rfl⟩ | ⟨h1,_⟩
    · exact ⟨fun _=>Rat.le_refl,fun _=>Rat.le_refl⟩
    · exact absurd h0 h1
  · constructor
    · intro hq
      have hq1:0<q:=Rat.not_le.1 fun h1=>h0 (Rat.le_antisymm h1 hq)
      obtain ⟨e,h1,h2⟩:=h.pos hb hp hl hq1
      rw [h2]
      exact rU hb hp d false hl (zA hb (BZ hb d false hq h1).1)
    · intro hq
      have hq1:q<0:=Rat.not_le.1 fun h1=>h0 (Rat.le_antisymm hq h1)
      obtain ⟨e,h1,h2⟩:=h.neg hb hp hl hq1
      rw [h2]
      have:=rU hb hp d true hl (zA hb (e:=e) (BZ hb d true (s := -q) (by grind) h1).1)
      grind
 by_cases h1:0<q
 · obtain ⟨e,h2,h3⟩:=h.pos hb hp hl h1
   have hr:0<r:=Rat.not_le.1 fun h6=>Rat.not_lt.2 (Rat.le_trans hqr h6) h1
   obtain ⟨f,g2,g3⟩:=g.pos hb hp hl hr
   rw [h3,g3]
   exact C8 hb hp d false hl (rM hb d false (Rat.le_of_lt h1) h2) (Jh hb hp d false (Rat.le_of_lt h1) h2 g2 hqr)
 · by_cases h4:r<0
   · obtain ⟨f,g2,g3⟩:=g.neg hb hp hl h4
     have hq:q<0:=Rat.not_le.1 fun h6=>Rat.not_lt.2 (Rat.le_trans h6 hqr) h4
     obtain ⟨e,h2,h3⟩:=h.neg hb hp hl hq
     rw [h3,g3]
     have:=C8 hb hp d true hl (rM hb d true (s := -r) (by grind) g2) (Jh hb hp d true (s := -r) (t := -q) (by grind) g2 h2 (by grind))
     grind
   · exact Rat.le_trans ((Mj h).2 (Rat.not_lt.1 h1)) ((Mj g).1 (Rat.not_lt.1 h4))
def Fl.turn:Fl→Fl
 | .zero neg=>.zero (!neg)
 | .fin neg m e=>.fin (!neg) m e
 | .inf neg=>.inf (!neg)
def tn (d:Nat):Nat:=if d>2 then 7-d else d
theorem OX {d:Nat} (hd:d<5) (neg odd:Bool) (r:Rat):nR (tn d) (!neg) odd r=nR d neg odd r:=by
 match d,hd with
 | 0,_=>rfl
 | 1,_=>rfl
 | 2,_=>rfl
 | 3,_=>cases neg<;>simp [nR,tn]
 | 4,_=>cases neg<;>simp [nR,tn]
theorem KV {d:Nat} (hd:d<5) (neg:Bool):BX (tn d) (!neg)=BX d neg:=by
 match d,hd with
 | 0,_=>rfl
 | 1,_=>rfl
 | 2,_=>rfl
 | 3,_=>cases neg<;>rfl
 | 4,_=>cases neg<;>rfl
theorem Sk {b d:Nat} (hd:d<5) (neg:Bool) (s:Rat) (e:Int):lY b (tn d) (!neg) s e=lY b d neg s e:=by
 unfold lY
 rw [OX hd]
theorem Sm {b p:Nat} {d:Nat} (hd:d<5) (hi:Int) (neg:Bool) (m e:Int):res b p hi (tn d) (!neg) m e=(res b p hi d neg m e).turn:=by
 unfold res
 rw [KV hd]
 split
 · rfl
 · split
   · rfl
   · split<;>rfl
theorem Rd.turned {b p:Nat} {lo hi:Int} {d:Nat} (hd:d<5) {q:Rat} {x:Fl} (hq:q≠0) (h:Rd b p lo hi d q x):Rd b p lo hi (tn d) (-q) x.turn:=by
 rcases h with ⟨h1,_⟩ | ⟨_,e,h2,h3⟩
 · exact absurd h1 hq
 · have hs:(if -q<0 then - -q else -q)=(if q<0 then -q else q):=by
    by_cases h1:q<0
    · rw [if_pos h1,if_neg (by grind)]
    · rw [if_neg h1,if_pos (by grind),Rat.neg_neg]
   have hn:decide (-q<0) = !decide (q<0):=by
    by_cases h1:q<0
    · rw [decide_eq_true h1,decide_eq_false (by grind)];rfl
    · rw [decide_eq_false h1,decide_eq_true (by grind)];rfl
   refine .inr ⟨by grind,e,by rw [hs];exact h2,?_⟩
   rw [hs,hn,Sk hd,Sm hd,← h3]
theorem jy {b p:Nat} {hi:Int} (x:Fl):ext b p hi x.turn = -ext b p hi x:=by
 cases x with
 | zero n=>unfold ext Fl.turn;simp
 | fin n m e=>cases n<;>simp [ext,Fl.turn,sv]
 | inf n=>cases n<;>simp [ext,Fl.turn,sv]
theorem Mi {b p:Nat} (hb:2≤b) {d:Nat} {neg:Bool} {s:Rat} {e:Int} (hd:d=3∧neg=false∨d=4∧neg=true):s≤vl b (lY b d neg s e) e:=by
 rw [tq (b:=b) s e hd]
 by_cases hr:0<rest b s e
 · rw [if_pos hr];exact Rat.le_of_lt (zM hb s e)
 · rw [if_neg hr,Int.add_zero,(qB hb).1 (Rat.le_antisymm (Rat.not_lt.1 hr) (Bl s e).1)]
   exact Rat.le_refl
theorem KW {b p:Nat} (hb:2≤b) (hp:1≤p) {d:Nat} {neg:Bool} {lo e m f:Int} {s:Rat} (hd:d=3∧neg=false∨d=4∧neg=true) (h:Fit b p lo s e) (g:Nf b p lo m f) (hs:s≤vl b m f):vl b (lY b d neg s e) e≤vl b m f:=by
 rw [tq (b:=b) s e hd]
 by_cases hr:0<rest b s e
 · rw [if_pos hr]
   rcases oP hb hp h g with h1 | h1
   · exact absurd (Rat.le_trans hs h1) (Rat.not_le.2 ((xS hb).1 hr))
   · exact h1
 · rw [if_neg hr,Int.add_zero,(qB hb).1 (Rat.le_antisymm (Rat.not_lt.1 hr) (Bl s e).1)]
   exact hs
theorem Rd.down {b p:Nat} (hb:2≤b) (hp:1≤p) {lo hi:Int} {q:Rat} {x:Fl} (hl:lo≤hi) (h:Rd b p lo hi 4 q x) :
  (ext b p hi x≤q∨x = .inf true)∧∀ y,bO b p lo hi y→(∀ n,y≠.inf n)→ext b p hi y≤q→ext b p hi y≤ext b p hi x:=by
 have ypos:∀ {n:Bool} {m e:Int},Nf b p lo m e→0<vl b m e:=fun h=>(kX hb).2 h.2.1
 rcases h with ⟨rfl,rfl⟩ | ⟨hq,e,hf,hx⟩
 · exact ⟨.inl Rat.le_refl,fun y _ _ h=>h⟩
 · by_cases hn:q<0
   · rw [if_pos hn] at hf hx
     rw [decide_eq_true hn] at hx
     have hs0:0 ≤ -q:=by grind
     have hD:=rM hb 4 true hs0 hf
     have hge:=Mi (p:=p) hb (s := -q) (e:=e) (d:=4) (neg:=true) (.inr ⟨rfl,rfl⟩)
     have hE:=xU hb hp 4 true hl hD
     rw [← hx] at hE
     refine ⟨?_,fun y hy hi' hyq=>?_⟩
     · by_cases hc:vl b (lY b 4 true (-q) e) e<vl b ((b^p:Nat):Int) hi
       · left
         rw [hE]
         unfold nV sv
         rw [if_pos hc,if_pos rfl]
         grind
       · right
         rw [hx]
         unfold res
         have hv:=oQ hb hp (lY b 4 true (-q) e) e
         have htp:=oh (p:=p) hb hi
         have hz:(nK b p (lY b 4 true (-q) e) e).1≠0:=fun hz=>by
          rw [hz,nA] at hv
          rw [← hv] at hc
          exact hc htp
         rw [if_neg hz,if_neg (fun he=>hc (by have:=(hD.nf hb hp hz).gT hb he;rwa [hv] at this))]
         rfl
     · cases y with
       | inf n=>exact absurd rfl (hi' n)
       | zero n=>exact absurd hyq (Rat.not_le.2 hn)
       | fin n m f =>
        have hp0:=ypos (n:=n) hy.1
        cases n with
        | false=>exact absurd (show vl b m f≤q from hyq) (Rat.not_le.2 (by grind))
        | true =>
         have hyq : -vl b m f≤q:=hyq
         have h1:=KW hb hp (.inr ⟨rfl,rfl⟩:4=3∧true=false∨4=4∧true=true) hf hy.1 (by grind)
         have h2:=hy.1.gT hb hy.2
         rw [hE]
         unfold nV sv
         rw [if_pos (Rat.not_le.1 fun h6=>Rat.not_lt.2 (Rat.le_trans h6 h1) h2),if_pos rfl]
         show -vl b m f≤_
         grind
   · rw [if_neg hn] at hf hx
     rw [decide_eq_false hn] at hx
     have hs0:0≤q:=Rat.not_lt.1 hn
     have hD:=rM hb 4 false hs0 hf
     have hE:=xU hb hp 4 false hl hD
     rw [← hx] at hE
     rw [tu q e (.inr (.inr ⟨rfl,rfl⟩))] at hE
     have hle:=vK hb q e
     have hnn:=zA hb (e:=e) (jw hb hs0 e)
     have hg:=nL hb hp hl
     refine ⟨.inl ?_,fun y hy hi' hyq=>?_⟩
     · rw [hE]
       unfold nV sv
       rw [if_neg (by decide)]
       split
       · exact hle
       · next hc =>
         have h1:=hg.gT hb (Int.le_refl hi)
         have h2:=Rat.le_trans (Rat.not_lt.1 hc) hle
         exact Rat.le_trans (Rat.le_of_lt h1) h2
     · have hE0:0≤ext b p hi x:=by
        rw [hE]
        exact rU hb hp 4 false hl hnn
       cases y with
       | inf n=>exact absurd rfl (hi' n)
       | zero n=>exact hE0
       | fin n m f =>
        have hp0:=ypos (n:=n) hy.1
        cases n with
        | true=>exact Rat.le_trans (show -vl b m f≤0 by grind) hE0
        | false =>
         have hyq:vl b m f≤q:=hyq
         have h1:=xR hb hp hs0 hf hy.1 hyq
         have h2:=hy.1.wE hb hp hl hy.2
         show vl b m f≤_
         rw [hE]
         unfold nV sv
         rw [if_neg (by decide)]
         split
         · exact h1
         · exact h2
theorem qy (x:Fl):x.turn.turn=x:=by cases x<;>simp [Fl.turn]
theorem bO.turn {b p:Nat} {lo hi:Int} {x:Fl} (h:bO b p lo hi x):bO b p lo hi x.turn:=by cases x<;>exact h
theorem Rd.up {b p:Nat} (hb:2≤b) (hp:1≤p) {lo hi:Int} {q:Rat} {x:Fl} (hl:lo≤hi) (h:Rd b p lo hi 3 q x) :
  (q≤ext b p hi x∨x = .inf false)∧∀ y,bO b p lo hi y→(∀ n,y≠.inf n)→q≤ext b p hi y→ext b p hi x≤ext b p hi y:=by
 by_cases hq:q=0
 · rcases h with ⟨rfl,rfl⟩ | ⟨h1,_⟩
   · exact ⟨.inl Rat.le_refl,fun y _ _ h=>h⟩
   · exact absurd hq h1
 · have h1:Rd b p lo hi 4 (-q) x.turn:=h.turned (by decide) hq
   obtain ⟨h2,h3⟩:=h1.down hb hp hl
   rw [jy] at h2
   refine ⟨?_,fun y hy hi' hyq=>?_⟩
   · rcases h2 with h2 | h2
     · left;grind
     · right
       rw [← qy x,h2];rfl
   · have h4:=h3 y.turn hy.turn (fun n hn=>hi' (!n) (by rw [← qy y,hn];rfl)) (by rw [jy];grind)
     rw [jy,jy] at h4
     grind
def lX (b p:Nat) (lo m e:Int):Int × Int:=if lo<e∧m-1<((b^(p-1):Nat):Int) then (((b^p:Nat):Int)-1,e-1) else (m-1,e)
def fE (b p:Nat) (lo hi:Int):Fl→Fl
 | .zero _=>.fin false 1 lo
 | .inf true=>.fin true (((b^p:Nat):Int)-1) hi
 | .inf false=>.inf false
 | .fin false m e=>if (nK b p (m+1) e).2≤hi then .fin false (nK b p (m+1) e).1 (nK b p (m+1) e).2 else .inf false
 | .fin true m e=>if (lX b p lo m e).1=0 then .zero true else .fin true (lX b p lo m e).1 (lX b p lo m e).2
def fV (b p:Nat) (lo hi:Int) (x:Fl):Fl:=(fE b p lo hi x.turn).turn
end Go.Proofs.YtgcieamfidoaoaaGreatDoor.Fm
/- Floats in cells: kinds, signs; what is rounded as a function; where a rest lies. -/
namespace Go.Proofs.YtgcieamfidoaoaaGreatDoor.Fm
open Dy
set_option maxRecDepth 100000
def kd:Fl→Int
 | .zero _=>0
 | .fin _ _ _=>1
 | .inf _=>2
def ng:Fl→Bool
 | .zero n=>n
 | .fin n _ _=>n
 | .inf n=>n
def mn:Fl→Nat
 | .fin _ m _=>m.natAbs
 | _=>0
def xp:Fl→Int
 | .fin _ _ e=>e
 | _=>0
def vf (b:Nat):Fl→Rat
 | .fin n m e=>sv n (vl b m e)
 | _=>0
theorem zX (q:Rat):0≤(if q<0 then -q else q):=by split<;>grind
theorem Xq {b p:Nat} (hb:2≤b) (hp:1≤p) (lo hi:Int) (d:Nat) (q:Rat):∃ x,Rd b p lo hi d q x:=by
 by_cases hq:q=0
 · exact ⟨.zero false,.inl ⟨hq,rfl⟩⟩
 · obtain ⟨e,he⟩:=kW hb hp (s:=if q<0 then -q else q) (zX q) lo
   exact ⟨_,.inr ⟨hq,e,he,rfl⟩⟩
open Classical in
noncomputable def rd (b p:Nat) (lo hi:Int) (d:Nat) (q:Rat):Fl:=if h:∃ x,Rd b p lo hi d q x then Classical.choose h else .zero false
theorem vL {b p:Nat} (hb:2≤b) (hp:1≤p) (lo hi:Int) (d:Nat) (q:Rat):Rd b p lo hi d q (rd b p lo hi d q):=by
 unfold rd
 rw [dif_pos (Xq hb hp lo hi d q)]
 exact Classical.choose_spec (Xq hb hp lo hi d q)
theorem rd_eq {b p:Nat} (hb:2≤b) (hp:1≤p) {lo hi:Int} {d:Nat} {q:Rat} {x:Fl} (h:Rd b p lo hi d q x):rd b p lo hi d q=x:=(vL hb hp lo hi d q).uniq hb hp h
theorem uM {b p:Nat} (hb:2≤b) (hp:1≤p) {lo hi:Int} {d:Nat}:rd b p lo hi d 0 = .zero false:=rd_eq hb hp (.inl ⟨rfl,rfl⟩)
theorem yZ {b p:Nat} (hb:2≤b) (hp:1≤p) {lo hi e:Int} {d:Nat} {q:Rat} (hq:q≠0) (h:Fit b p lo (if q<0 then -q else q) e):rd b p lo hi d q=res b p hi d (decide (q<0)) (lY b d (decide (q<0)) (if q<0 then -q else q) e) e:=rd_eq hb hp (.inr ⟨hq,e,h,rfl⟩)
def yN (r:Rat):Int:=if r<1/2 then -1 else if r=1/2 then 0 else 1
def qX (b p:Nat) (s:Rat) (e:Int):Int:=if ((b^p:Nat):Int)≤dg b s e then 1 else if dg b s e<((b^(p-1):Nat):Int) then -1 else 0
theorem Ma {b p:Nat} {lo e:Int} {s:Rat} (h:lo≤e) (h1:qX b p s e≤0) (h2:qX b p s e=0∨e=lo):Fit b p lo s e:=by
 unfold qX at h1 h2
 split at h1
 · omega
 · next h3 =>
   rw [if_neg h3] at h2
   refine ⟨h,by omega,?_⟩
   split at h2
   · rcases h2 with h2 | h2
     · omega
     · exact .inl h2
   · exact .inr (by omega)
theorem Yh {b p:Nat} (hb:2≤b) (hp:1≤p) {lo e f:Int} {s:Rat} (g:Fit b p lo s f) (h:lo≤e) (h1:0<qX b p s e):qX b p s e=1∧e<f:=by
 unfold qX at h1 ⊢
 split at h1
 · next h2=>rw [if_pos h2];exact ⟨rfl,g.above hb hp h h2⟩
 · split at h1<;>omega
theorem Qp {b p:Nat} (hb:2≤b) (hp:1≤p) {lo e f:Int} {s:Rat} (g:Fit b p lo s f) (h:lo<e) (h1:qX b p s e<0):qX b p s e = -1∧f<e:=by
 unfold qX at h1 ⊢
 split at h1
 · omega
 · next h2 =>
   rw [if_neg h2]
   split at h1
   · next h3=>rw [if_pos h3];exact ⟨rfl,g.below hb hp h h3⟩
   · omega
theorem Bg {b:Nat} {s:Rat} {e N D:Int} (hD:0<D) (hx:s*bp b (-e)=(N:Rat)/(D:Rat)):dg b s e=N/D:=by
 unfold dg;rw [hx];exact OQ hD
theorem EF {b:Nat} {s:Rat} {e N D:Int} (hD:0<D) (hx:s*bp b (-e)=(N:Rat)/(D:Rat)):rest b s e*(D:Rat)=((N%D:Int):Rat):=by
 have hD':(0:Rat)<(D:Rat):=by have:=Rat.intCast_lt_intCast.2 hD;exact this
 have h1:N/D*D+N%D=N:=Int.ediv_mul_add_emod N D
 have h2:((N/D:Int):Rat)*(D:Rat)+((N%D:Int):Rat)=(N:Rat):=by rw [← Rat.intCast_mul,← Rat.intCast_add,h1]
 unfold rest
 have h3:(N:Rat)/(D:Rat)*(D:Rat)=(N:Rat):=Rat.div_mul_cancel (Rat.ne_of_gt hD')
 rw [Bg hD hx,hx]
 grind
theorem BP {b:Nat} {s:Rat} {e N D:Int} (hD:0<D) (hx:s*bp b (-e)=(N:Rat)/(D:Rat)):0<N%D↔0<rest b s e:=by
 have hD':(0:Rat)<(D:Rat):=by have:=Rat.intCast_lt_intCast.2 hD;exact this
 have h:=EF hD hx
 rw [show (0<N%D↔(0:Rat)<((N%D:Int):Rat)) from ⟨fun h=>Rat.intCast_lt_intCast.2 h,fun h=>Rat.intCast_lt_intCast.1 h⟩,← h]
 constructor
 · intro g;exact Rat.not_le.1 fun h9=>by
    have:=Rat.mul_nonneg (show 0 ≤ -rest b s e by grind) (Rat.le_of_lt hD')
    grind
 · intro g;exact Rat.mul_pos g hD'
theorem Il {b:Nat} {s:Rat} {e N D:Int} (hD:0<D) (hx:s*bp b (-e)=(N:Rat)/(D:Rat)):(2*(N%D)<D↔rest b s e<1/2)∧(2*(N%D)=D↔rest b s e=1/2):=by
 have hD':(0:Rat)<(D:Rat):=by have:=Rat.intCast_lt_intCast.2 hD;exact this
 have h:=EF hD hx
 have h2:((2*(N%D):Int):Rat)=2*(rest b s e*(D:Rat)):=by rw [h,Rat.intCast_mul];rfl
 have e0:2*(rest b s e*(D:Rat))=(2*rest b s e)*D:=by grind
 refine ⟨?_,?_⟩
 · rw [← Rat.intCast_lt_intCast,h2,e0]
   constructor
   · intro g;exact Rat.not_le.1 fun h9=>by
      have:=Rat.mul_nonneg (show 0≤2*rest b s e-1 by grind) (Rat.le_of_lt hD')
      grind
   · intro g
     have:=Rat.mul_pos (show 0<1-2*rest b s e by grind) hD'
     grind
 · rw [show (2*(N%D)=D↔((2*(N%D):Int):Rat)=(D:Rat)) from ⟨fun h=>by rw [h],fun h=>Rat.intCast_inj.1 h⟩,h2,e0]
   constructor
   · intro g
     have h9:(2*rest b s e-1)*(D:Rat)=0:=by grind
     rcases Rat.mul_eq_zero.1 h9 with h9 | h9
     · grind
     · grind
   · intro g;rw [g];grind
theorem Ul {b:Nat} {s:Rat} {e N D:Int} (hD:0<D) (hx:s*bp b (-e)=(N:Rat)/(D:Rat)):(if 2*(N%D)<D then (-1:Int) else if D<2*(N%D) then 1 else 0)=yN (rest b s e):=by
 obtain ⟨h1,h2⟩:=Il hD hx
 unfold yN
 by_cases c1:2*(N%D)<D
 · rw [if_pos c1,if_pos (h1.1 c1)]
 · rw [if_neg c1,if_neg (fun h=>c1 (h1.2 h))]
   by_cases c2:2*(N%D)=D
   · rw [if_neg (by omega),if_pos (h2.1 c2)]
   · rw [if_pos (by omega),if_neg (fun h=>c2 (h2.2 h))]
theorem BQ {b:Nat} (hb:2≤b) {n d e:Int} {s:Rat} (hd:0<d) (hs:s=(n:Rat)/(d:Rat)) (he:0≤e):s*bp b (-e)=(n:Rat)/((d*((b^e.toNat:Nat):Int):Int):Rat)∧0<d*((b^e.toNat:Nat):Int):=by
 have hk:=Nat.pow_pos (n:=e.toNat) (show 0<b by omega)
 have hd':(0:Rat)<(d:Rat):=by have:=Rat.intCast_lt_intCast.2 hd;exact this
 refine ⟨?_,Int.mul_pos hd (by omega)⟩
 have h1:=y5 hb e
 have h2:bp b e=(((b^e.toNat:Nat):Int):Rat):=by
  have:=ry b e.toNat
  rwa [show ((e.toNat:Nat):Int)=e by omega] at this
 have h3:bp b (-e)=(bp b e)⁻¹:=by
  have hne:=Md hb e
  have:bp b (-e)=bp b e*bp b (-e)*(bp b e)⁻¹:=by
   rw [Rat.mul_comm (bp b e),Rat.mul_assoc,Rat.mul_inv_cancel _ hne,Rat.mul_one]
  rw [h1,Rat.one_mul] at this
  exact this
 rw [hs,h3,h2,Rat.intCast_mul,Rat.div_def,Rat.div_def,Rat.inv_mul_rev,Rat.mul_assoc,Rat.mul_comm (d:Rat)⁻¹]
theorem BR {b:Nat} {n d e:Int} {s:Rat} (hs:s=(n:Rat)/(d:Rat)) (he:e<0):s*bp b (-e)=((n*((b^(-e).toNat:Nat):Int):Int):Rat)/(d:Rat):=by
 have h2:bp b (-e)=(((b^(-e).toNat:Nat):Int):Rat):=by
  have:=ry b (-e).toNat
  rwa [show (((-e).toNat:Nat):Int) = -e by omega] at this
 rw [hs,h2,Rat.intCast_mul,Rat.div_def,Rat.div_def,Rat.mul_assoc,Rat.mul_assoc,Rat.mul_comm (d:Rat)⁻¹]
theorem xD (q:Rat):(if q<0 then -q else q)=((q.num.natAbs:Int):Rat)/((q.den:Nat):Int):=by
 have h:(q.num:Rat)/((q.den:Int):Rat)=q:=by rw [← Rat.divInt_eq_div];exact Rat.num_divInt_den q
 have hd:(0:Rat)<((q.den:Nat):Rat):=by have:=Rat.intCast_lt_intCast.2 (show (0:Int)<((q.den:Nat):Int) by have:=q.den_pos;omega);exact this
 have hs:q<0↔q.num<0:=by
  rw [← Rat.not_le,← Rat.num_nonneg];omega
 by_cases hq:q<0
 · rw [if_pos hq,show ((q.num.natAbs:Nat):Int) = -q.num by have:=hs.1 hq;omega]
   rw [Rat.intCast_neg,Rat.div_def,Rat.neg_mul,← Rat.div_def]
   exact congrArg (fun x => -x) h.symm
 · rw [if_neg hq,show ((q.num.natAbs:Nat):Int)=q.num by have:¬ q.num<0:=fun h=>hq (hs.2 h);omega]
   exact h.symm
end Go.Proofs.YtgcieamfidoaoaaGreatDoor.Fm
/- The next float exactly; order by kinds, exponents, digits; rounded by a wider format first. -/
namespace Go.Proofs.YtgcieamfidoaoaaGreatDoor.Fm
open Dy
set_option maxRecDepth 100000
def sM:Fl→Int
 | .zero _=>0
 | .fin n _ _=>if n then -1 else 1
 | .inf n=>if n then -1 else 1
def Mc (x y:Fl):Int:=if kd x<kd y then -1 else if kd y<kd x then 1 else if xp x<xp y then -1 else if xp y<xp x then 1 else if mn x<mn y then -1 else if mn y<mn x then 1 else 0
def kJ (x y:Fl):Int:=if sM x<sM y then -1 else if sM y<sM x then 1 else sM x*Mc x y
theorem Bh {w:Rat} (h:w≠0):0<(if w<0 then -w else w):=by split<;>grind
end Go.Proofs.YtgcieamfidoaoaaGreatDoor.Fm
