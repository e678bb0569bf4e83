/- Base. -/
import Derived.Test.YtgcieamfidoaoaaGreatDoorGbc
set_option linter.all false
set_option maxHeartbeats 8000000
set_option maxRecDepth 100000
namespace Go.Proofs.YtgcieamfidoaoaaGreatDoor
open Go.Proofs.Tryz
namespace Fm
open Dy
def kd:Fl→Int
 | .zero _=>0
 | .fin _ _ _=>1
 | .inf _=>2
def ng:Fl→Bool
 | .zero n=>n
 | .fin n _ _=>n
 | .inf n=>n
def mn:Fl→Nat
 | .fin _ m _=>m.natAbs
 | _=>0
def xp:Fl→Int
 | .fin _ _ e=>e
 | _=>0
def vf (b:Nat):Fl→Rat
 | .fin n m e=>sv n (vl b m e)
 | _=>0
theorem xm (q:Rat):0≤(if q<0 then -q else q):=by split<;>grind
theorem abx {b p:Nat} (hb:2≤b) (hp:1≤p) (lo hi:Int) (d:Nat) (q:Rat):∃ x,Rd b p lo hi d q x:=by
 by_cases hq:q=0
 · exact ⟨.zero false,.inl ⟨hq,rfl⟩⟩
 · obtain ⟨e,he⟩:=kZ hb hp (s:=if q<0 then -q else q) (xm q) lo;exact ⟨_,.inr ⟨hq,e,he,rfl⟩⟩
open Classical in
noncomputable def rd (b p:Nat) (lo hi:Int) (d:Nat) (q:Rat):Fl:=if h:∃ x,Rd b p lo hi d q x then Classical.choose h else .zero false
theorem tZ {b p:Nat} (hb:2≤b) (hp:1≤p) (lo hi:Int) (d:Nat) (q:Rat):Rd b p lo hi d q (rd b p lo hi d q):=by unfold rd;rw [dif_pos (abx hb hp lo hi d q)];exact Classical.choose_spec (abx hb hp lo hi d q)
theorem rd_eq {b p:Nat} (hb:2≤b) (hp:1≤p) {lo hi:Int} {d:Nat} {q:Rat} {x:Fl} (h:Rd b p lo hi d q x):rd b p lo hi d q=x:=(tZ hb hp lo hi d q).uniq hb hp h
theorem uY {b p:Nat} (hb:2≤b) (hp:1≤p) {lo hi:Int} {d:Nat}:rd b p lo hi d 0 = .zero false:=rd_eq hb hp (.inl ⟨rfl,rfl⟩)
theorem nO {b p:Nat} (hb:2≤b) (hp:1≤p) {lo hi e:Int} {d:Nat} {q:Rat} (hq:q≠0) (h:Fit b p lo (if q<0 then -q else q) e):rd b p lo hi d q=res b p hi d (decide (q<0)) (qo b d (decide (q<0)) (if q<0 then -q else q) e) e:=rd_eq hb hp (.inr ⟨hq,e,h,rfl⟩)
def BZ (r:Rat):Int:=if r<1/2 then -1 else if r=1/2 then 0 else 1
def uT (b p:Nat) (s:Rat) (e:Int):Int:=if ((b^p:Nat):Int)≤dg b s e then 1 else if dg b s e<((b^(p-1):Nat):Int) then -1 else 0
theorem Qg {b p:Nat} {lo e:Int} {s:Rat} (h:lo≤e) (h1:uT b p s e≤0) (h2:uT b p s e=0∨e=lo):Fit b p lo s e:=by
 unfold uT at h1 h2;split at h1
 · omega
 · next h3 =>
   rw [if_neg h3] at h2;refine ⟨h,by omega,?_⟩;split at h2
   · rcases h2 with h2 | h2
     · omega
     · exact .inl h2
   · exact .inr (by omega)
theorem ace {b p:Nat} (hb:2≤b) (hp:1≤p) {lo e f:Int} {s:Rat} (g:Fit b p lo s f) (h:lo≤e) (h1:0<uT b p s e):uT b p s e=1∧e<f:=by
 unfold uT at h1 ⊢;split at h1
 · next h2=>rw [if_pos h2];exact ⟨rfl,g.above hb hp h h2⟩
 · split at h1<;>omega
theorem UD {b p:Nat} (hb:2≤b) (hp:1≤p) {lo e f:Int} {s:Rat} (g:Fit b p lo s f) (h:lo<e) (h1:uT b p s e<0):uT b p s e = -1∧f<e:=by
 unfold uT at h1 ⊢;split at h1
 · omega
 · next h2 =>
   rw [if_neg h2];split at h1
   · next h3=>rw [if_pos h3];exact ⟨rfl,g.below hb hp h h3⟩
   · omega
theorem Ej {b:Nat} {s:Rat} {e N D:Int} (hD:0<D) (hx:s*bp b (-e)=(N:Rat)/(D:Rat)):dg b s e=N/D:=by unfold dg;rw [hx];exact SX hD
theorem Je {b:Nat} {s:Rat} {e N D:Int} (hD:0<D) (hx:s*bp b (-e)=(N:Rat)/(D:Rat)):rest b s e*(D:Rat)=((N%D:Int):Rat):=by
 have hD':(0:Rat)<(D:Rat):=by have:=Rat.intCast_lt_intCast.2 hD;exact this
 have h1:N/D*D+N%D=N:=Int.ediv_mul_add_emod N D;have h2:((N/D:Int):Rat)*(D:Rat)+((N%D:Int):Rat)=(N:Rat):=by rw [← Rat.intCast_mul,← Rat.intCast_add,h1]
 unfold rest;have h3:(N:Rat)/(D:Rat)*(D:Rat)=(N:Rat):=Rat.div_mul_cancel (Rat.ne_of_gt hD');rw [Ej hD hx,hx];grind
theorem EM {b:Nat} {s:Rat} {e N D:Int} (hD:0<D) (hx:s*bp b (-e)=(N:Rat)/(D:Rat)):0<N%D↔0<rest b s e:=by
 have hD':(0:Rat)<(D:Rat):=by have:=Rat.intCast_lt_intCast.2 hD;exact this
 have h:=Je hD hx;rw [show (0<N%D↔(0:Rat)<((N%D:Int):Rat)) from ⟨fun h=>Rat.intCast_lt_intCast.2 h,fun h=>Rat.intCast_lt_intCast.1 h⟩,← h];constructor
 · intro g;exact Rat.not_le.1 fun h9=>by
    have:=Rat.mul_nonneg (show 0 ≤ -rest b s e by grind) (Rat.le_of_lt hD');grind
 · intro g;exact Rat.mul_pos g hD'
theorem LM {b:Nat} {s:Rat} {e N D:Int} (hD:0<D) (hx:s*bp b (-e)=(N:Rat)/(D:Rat)):(2*(N%D)<D↔rest b s e<1/2)∧(2*(N%D)=D↔rest b s e=1/2):=by
 have hD':(0:Rat)<(D:Rat):=by have:=Rat.intCast_lt_intCast.2 hD;exact this
 have h:=Je hD hx;have h2:((2*(N%D):Int):Rat)=2*(rest b s e*(D:Rat)):=by rw [h,Rat.intCast_mul];rfl
 have e0:2*(rest b s e*(D:Rat))=(2*rest b s e)*D:=by grind
 refine ⟨?_,?_⟩
 · rw [← Rat.intCast_lt_intCast,h2,e0];constructor
   · intro g;exact Rat.not_le.1 fun h9=>by
      have:=Rat.mul_nonneg (show 0≤2*rest b s e-1 by grind) (Rat.le_of_lt hD');grind
   · intro g;have:=Rat.mul_pos (show 0<1-2*rest b s e by grind) hD';grind
 · rw [show (2*(N%D)=D↔((2*(N%D):Int):Rat)=(D:Rat)) from ⟨fun h=>by rw [h],fun h=>Rat.intCast_inj.1 h⟩,h2,e0];constructor
   · intro g;have h9:(2*rest b s e-1)*(D:Rat)=0:=(by grind);rcases Rat.mul_eq_zero.1 h9 with h9 | h9
     · grind
     · grind
   · intro g;rw [g];grind
theorem YM {b:Nat} {s:Rat} {e N D:Int} (hD:0<D) (hx:s*bp b (-e)=(N:Rat)/(D:Rat)):(if 2*(N%D)<D then (-1:Int) else if D<2*(N%D) then 1 else 0)=BZ (rest b s e):=by
 obtain ⟨h1,h2⟩:=LM hD hx;unfold BZ;by_cases c1:2*(N%D)<D
 · rw [if_pos c1,if_pos (h1.1 c1)]
 · rw [if_neg c1,if_neg (fun h=>c1 (h1.2 h))];by_cases c2:2*(N%D)=D
   · rw [if_neg (by omega),if_pos (h2.1 c2)]
   · rw [if_pos (by omega),if_neg (fun h=>c2 (h2.2 h))]
theorem EO {b:Nat} (hb:2≤b) {n d e:Int} {s:Rat} (hd:0<d) (hs:s=(n:Rat)/(d:Rat)) (he:0≤e):s*bp b (-e)=(n:Rat)/((d*((b^e.toNat:Nat):Int):Int):Rat)∧0<d*((b^e.toNat:Nat):Int):=by
 have hk:=Nat.pow_pos (n:=e.toNat) (show 0<b by omega);have hd':(0:Rat)<(d:Rat):=by have:=Rat.intCast_lt_intCast.2 hd;exact this
 refine ⟨?_,Int.mul_pos hd (by omega)⟩;have h1:=wJ hb e;have h2:bp b e=(((b^e.toNat:Nat):Int):Rat):=by have:=uX b e.toNat;rwa [show ((e.toNat:Nat):Int)=e by omega] at this
 have h3:bp b (-e)=(bp b e)⁻¹:=by
  have hne:=Aj hb e;have:bp b (-e)=bp b e*bp b (-e)*(bp b e)⁻¹:=by rw [Rat.mul_comm (bp b e),Rat.mul_assoc,Rat.mul_inv_cancel _ hne,Rat.mul_one]
  rw [h1,Rat.one_mul] at this;exact this
 rw [hs,h3,h2,Rat.intCast_mul,Rat.div_def,Rat.div_def,Rat.inv_mul_rev,Rat.mul_assoc,Rat.mul_comm (d:Rat)⁻¹]
theorem EP {b:Nat} {n d e:Int} {s:Rat} (hs:s=(n:Rat)/(d:Rat)) (he:e<0):s*bp b (-e)=((n*((b^(-e).toNat:Nat):Int):Int):Rat)/(d:Rat):=by
 have h2:bp b (-e)=(((b^(-e).toNat:Nat):Int):Rat):=by have:=uX b (-e).toNat;rwa [show (((-e).toNat:Nat):Int) = -e by omega] at this
 rw [hs,h2,Rat.intCast_mul,Rat.div_def,Rat.div_def,Rat.mul_assoc,Rat.mul_assoc,Rat.mul_comm (d:Rat)⁻¹]
theorem EN (q:Rat):(if q<0 then -q else q)=((q.num.natAbs:Int):Rat)/((q.den:Nat):Int):=by
 have h:(q.num:Rat)/((q.den:Int):Rat)=q:=by rw [← Rat.divInt_eq_div];exact Rat.num_divInt_den q
 have hd:(0:Rat)<((q.den:Nat):Rat):=by have:=Rat.intCast_lt_intCast.2 (show (0:Int)<((q.den:Nat):Int) by have:=q.den_pos;omega);exact this
 have hs:q<0↔q.num<0:=by rw [← Rat.not_le,← Rat.num_nonneg];omega
 by_cases hq:q<0
 · rw [if_pos hq,show ((q.num.natAbs:Nat):Int) = -q.num by have:=hs.1 hq;omega];rw [Rat.intCast_neg,Rat.div_def,Rat.neg_mul,← Rat.div_def];exact congrArg (fun x => -x) h.symm
 · rw [if_neg hq,show ((q.num.natAbs:Nat):Int)=q.num by have:¬ q.num<0:=fun h=>hq (hs.2 h);omega];exact h.symm
def wH:Fl→Int
 | .zero _=>0
 | .fin n _ _=>if n then -1 else 1
 | .inf n=>if n then -1 else 1
def szF (x y:Fl):Int:=if kd x<kd y then -1 else if kd y<kd x then 1 else if xp x<xp y then -1 else if xp y<xp x then 1 else if mn x<mn y then -1 else if mn y<mn x then 1 else 0
def tY (x y:Fl):Int:=if wH x<wH y then -1 else if wH y<wH x then 1 else wH x*szF x y
theorem YP {w:Rat} (h:w≠0):0<(if w<0 then -w else w):=by split<;>grind
end Fm
namespace Rf
open Go Go.RowKit Pl
def XK:List SV→Bool
 | []=>true
 | .v x::l=>bU x&&XK l
 | _=>false
theorem iH:∀ {l:List SV},XK l=true→∀ α γ,∀ c∈dU α γ l,bU c=true
 | [],_,_,_,c,hc=>by cases hc
 | .v x::l,h,α,γ,c,hc=>by
  have h1:(bU x&&XK l)=true:=h;rw [Bool.and_eq_true] at h1;rcases List.mem_cons.1 (show c∈x::dU α γ l from hc) with rfl | hc
  · exact h1.1
  · exact iH h1.2 α γ c hc
def tyZ:TypeId→Option (List SV)
 | 4 => some [vF]
 | 3 => some [vI 0]
 | 24 => some [vN]
 | 46 => some [vI 0]
 | 5 => some [.v (.int .u8 0)]
 | 2 => some [vI 0]
 | 88 => some [.v (.nilFunc)]
 | 89 => some [.v (.nilFunc)]
 | 62 => some [.v (.nilFunc)]
 | 34 => some [vF,vN]
 | 36 => some [vF,vN,vN]
 | 23 => some [vI 0,vI 0,vI 0,vI 0]
 | 26 => some [vI 0,vF,vN,vI 0]
 | 96 => some [vF,vI 0,vF,vF]
 | 91 => some [.v (.nilFunc),.v (.nilFunc)]
 | 92 => some [.v (.nilFunc),.v (.nilFunc),.v (.nilFunc),.v (.nilFunc),.v (.nilFunc),.v (.nilFunc),.v (.nilFunc),.v (.nilFunc),.v (.nilFunc),.v (.nilFunc)]
 | 27 => some [vI 0,vF,vN,vI 0,vI 0,vF,vN,vI 0]
 | 59 => some [vF,vN,vN,vF,vN,vN]
 | 64 => some [.v (.int .u8 0),.v (.int .u8 0)]
 | _=>none
def tyN:TypeId→Option (Nat × Bool)
 | 4 => some (1,false)
 | 3 => some (1,false)
 | 24 => some (1,false)
 | 46 => some (1,false)
 | 5 => some (1,false)
 | 2 => some (1,false)
 | 88 => some (1,false)
 | 89 => some (1,false)
 | 62 => some (1,false)
 | 34 => some (2,true)
 | 36 => some (3,true)
 | 23 => some (4,true)
 | 26 => some (4,true)
 | 96 => some (4,true)
 | 91 => some (2,true)
 | 92 => some (10,true)
 | 27 => some (8,true)
 | 59 => some (6,true)
 | 64 => some (2,true)
 | _=>none
def tyO:TypeId→Nat→Option Nat
 | 34,0=>some 0
 | 34,1=>some 1
 | 36,0=>some 0
 | 36,1=>some 2
 | 23,0=>some 0
 | 23,1=>some 1
 | 23,2=>some 2
 | 23,3=>some 3
 | 26,0=>some 0
 | 26,1=>some 1
 | 26,2=>some 2
 | 26,3=>some 3
 | 96,0=>some 0
 | 96,1=>some 1
 | 96,2=>some 2
 | 96,3=>some 3
 | 91,0=>some 0
 | 91,1=>some 1
 | _,_=>none
def tI:TI:=⟨tyZ,tyN,tyO⟩
theorem aa:BX prog tI where
 zero t cs h:=by
  have h1:tyZ t=some cs:=h;unfold tyZ at h1;split at h1
  · cases h1;exact ⟨.bool false,by kernel_rfl,fun _ _=>rfl,iH rfl,fun _=>rfl⟩
  · cases h1;exact ⟨.int .i64 0,by kernel_rfl,fun _ _=>rfl,iH rfl,fun _=>rfl⟩
  · cases h1;exact ⟨.slice none 0 0,by kernel_rfl,fun _ _=>rfl,iH rfl,fun _=>rfl⟩
  · cases h1;exact ⟨.int .i64 0,by kernel_rfl,fun _ _=>rfl,iH rfl,fun _=>rfl⟩
  · cases h1;exact ⟨.int .u8 0,by kernel_rfl,fun _ _=>rfl,iH rfl,fun _=>rfl⟩
  · cases h1;exact ⟨.int .i64 0,by kernel_rfl,fun _ _=>rfl,iH rfl,fun _=>rfl⟩
  · cases h1;exact ⟨.nilFunc,by kernel_rfl,fun _ _=>rfl,iH rfl,fun _=>rfl⟩
  · cases h1;exact ⟨.nilFunc,by kernel_rfl,fun _ _=>rfl,iH rfl,fun _=>rfl⟩
  · cases h1;exact ⟨.nilFunc,by kernel_rfl,fun _ _=>rfl,iH rfl,fun _=>rfl⟩
  · cases h1;exact ⟨.agg #[.bool false,.slice none 0 0],by kernel_rfl,fun _ _=>rfl,iH rfl,fun _=>rfl⟩
  · cases h1;exact ⟨.agg #[.bool false,.slice none 0 0,.slice none 0 0],by kernel_rfl,fun _ _=>rfl,iH rfl,fun _=>rfl⟩
  · cases h1;exact ⟨A0c 0 0 0 0,by kernel_rfl,fun _ _=>rfl,iH rfl,fun _=>rfl⟩
  · cases h1;exact ⟨.agg #[.int .i64 0,.bool false,.slice none 0 0,.int .i64 0],by kernel_rfl,fun _ _=>rfl,iH rfl,fun _=>rfl⟩
  · cases h1;exact ⟨.agg #[.bool false,.int .i64 0,.bool false,.bool false],by kernel_rfl,fun _ _=>rfl,iH rfl,fun _=>rfl⟩
  · cases h1;exact ⟨.agg #[.nilFunc,.nilFunc],by kernel_rfl,fun _ _=>rfl,iH rfl,fun _=>rfl⟩
  · cases h1;exact ⟨.agg #[.nilFunc,.nilFunc,.nilFunc,.nilFunc,.nilFunc,.nilFunc,.nilFunc,.nilFunc,.nilFunc,.nilFunc],by kernel_rfl,fun _ _=>rfl,iH rfl,fun _=>rfl⟩
  · cases h1;exact ⟨.agg #[.int .i64 0,.bool false,.slice none 0 0,.int .i64 0,.int .i64 0,.bool false,.slice none 0 0,.int .i64 0],by kernel_rfl,fun _ _=>rfl,iH rfl,fun _=>rfl⟩
  · cases h1;exact ⟨.agg #[.bool false,.slice none 0 0,.slice none 0 0,.bool false,.slice none 0 0,.slice none 0 0],by kernel_rfl,fun _ _=>rfl,iH rfl,fun _=>rfl⟩
  · cases h1;exact ⟨.agg #[.int .u8 0,.int .u8 0],by kernel_rfl,fun _ _=>rfl,iH rfl,fun _=>rfl⟩
  · cases h1
 size t m r h:=by
  have h1:tyN t=some (m,r):=h;unfold tyN at h1;split at h1
  · cases h1;exact ⟨by kernel_rfl,_,underlying4,rfl⟩
  · cases h1;exact ⟨by kernel_rfl,_,underlying3,rfl⟩
  · cases h1;exact ⟨by kernel_rfl,_,underlying24,rfl⟩
  · cases h1;exact ⟨by kernel_rfl,_,underlying46,rfl⟩
  · cases h1;exact ⟨by kernel_rfl,_,underlying5,rfl⟩
  · cases h1;exact ⟨by kernel_rfl,_,underlying2,rfl⟩
  · cases h1;exact ⟨by kernel_rfl,_,underlying88,rfl⟩
  · cases h1;exact ⟨by kernel_rfl,_,underlying89,rfl⟩
  · cases h1;exact ⟨by kernel_rfl,_,underlying62,rfl⟩
  · cases h1;exact ⟨by kernel_rfl,_,underlying34,rfl⟩
  · cases h1;exact ⟨by kernel_rfl,_,underlying36,rfl⟩
  · cases h1;exact ⟨by kernel_rfl,_,underlying23,rfl⟩
  · cases h1;exact ⟨by kernel_rfl,_,underlying26,rfl⟩
  · cases h1;exact ⟨by kernel_rfl,_,underlying96,rfl⟩
  · cases h1;exact ⟨by kernel_rfl,_,underlying91,rfl⟩
  · cases h1;exact ⟨by kernel_rfl,_,underlying92,rfl⟩
  · cases h1;exact ⟨by kernel_rfl,_,underlying27,rfl⟩
  · cases h1;exact ⟨by kernel_rfl,_,underlying59,rfl⟩
  · cases h1;exact ⟨by kernel_rfl,_,underlying64,rfl⟩
  · cases h1
 off s k o h:=by
  have h1:tyO s k=some o:=h;unfold tyO at h1;split at h1
  · cases h1;exact gP (m:=0) underlying34 rfl (by kernel_rfl) rfl
  · cases h1;exact gP (m:=0) underlying34 rfl (by kernel_rfl) rfl
  · cases h1;exact gP (m:=1) underlying36 rfl (by kernel_rfl) rfl
  · cases h1;exact gP (m:=0) underlying36 rfl (by kernel_rfl) rfl
  · cases h1;exact gP (m:=0) underlying23 rfl (by kernel_rfl) rfl
  · cases h1;exact gP (m:=0) underlying23 rfl (by kernel_rfl) rfl
  · cases h1;exact gP (m:=0) underlying23 rfl (by kernel_rfl) rfl
  · cases h1;exact gP (m:=0) underlying23 rfl (by kernel_rfl) rfl
  · cases h1;exact gP (m:=0) underlying26 rfl (by kernel_rfl) rfl
  · cases h1;exact gP (m:=0) underlying26 rfl (by kernel_rfl) rfl
  · cases h1;exact gP (m:=0) underlying26 rfl (by kernel_rfl) rfl
  · cases h1;exact gP (m:=0) underlying26 rfl (by kernel_rfl) rfl
  · cases h1;exact gP (m:=0) underlying96 rfl (by kernel_rfl) rfl
  · cases h1;exact gP (m:=0) underlying96 rfl (by kernel_rfl) rfl
  · cases h1;exact gP (m:=0) underlying96 rfl (by kernel_rfl) rfl
  · cases h1;exact gP (m:=0) underlying96 rfl (by kernel_rfl) rfl
  · cases h1;exact gP (m:=0) underlying91 rfl (by kernel_rfl) rfl
  · cases h1;exact gP (m:=0) underlying91 rfl (by kernel_rfl) rfl
  · cases h1
