/- Base. -/
import Derived.Test.YtgcieamfidoaoaaGreatDoorGbb
set_option linter.all false
set_option maxHeartbeats 8000000
set_option maxRecDepth 100000
namespace Go.Proofs.YtgcieamfidoaoaaGreatDoor
open Go.Proofs.Tryz
namespace Rf
open Go Go.RowKit Pl
abbrev vC (f:FuncId):SV:=.v (.func (.func f) #[] #[])
abbrev vP (b:Nat):SV:=.v (A0a b)
def okF (f:Nat):Bool:=Nat.blt f 251&&!(Nat.beq f 0)&&!(Nat.beq f 1)&&!(Nat.beq f 172)&&!(Nat.beq f 227)
theorem cZ {f:FuncId} (h:okF f=true) (u:Array Value) (X:World):(callFunc f u).run prog X = .ok (.enter f u) X:=by
 have ha:((List.range 251).all fun k=>!(okF k)||match (prog).funcs[k]? with
  | some fn=>fn.name != "runtime.NumGoroutine" && fn.body.isSome
  | none=>false)=true:=by kernel_rfl
 have hl:Nat.blt f 251=true:=by unfold okF at h;simp only [Bool.and_eq_true] at h;simp only [h]
 have hk:=List.all_eq_true.1 ha f (List.mem_range.2 (Nat.le_of_ble_eq_true hl));rw [h] at hk;split at hk
 · next fn hf =>rw [Bool.not_true,Bool.false_or,Bool.and_eq_true] at hk;obtain ⟨c,hc⟩:=Option.isSome_iff_exists.1 hk.2;exact enters hf (by simpa using hk.1) hc u X
 · cases hk
section
variable {Q:Exit→Act→World→Prop} {n:Nat} {ds:List Deferred} {w0:World} {cs:List Code} {l:Fr} {B:Bx} {Γ:Gm} {L:List Oper}
theorem ak {r:qE} {i m d:Nat} {o:Oper} {f:FuncId} {xs:List Operand} {ats:Array TypeId} {ss:List SV} (g:Nat) {S:RS} {res:SV} (e:(nth L i,o.op,o.dst,lJ L l o.guard,evs l xs,fresh g l B Γ,okF f)=(some o,.call { callee:=.value (.func f),args:=xs.toArray,argTypes:=ats },some d,some true,some ss,true,true)) (DY:∀ {α γ w},Holds w0 B Γ α γ w→Calls prog f (dU α γ ss).toArray w (fun e w'=>∃ F,(∀ k,bU (F k)=true)∧e = .returned (den α (upd γ g F) res)∧S.R w' F∧aS w w')) (h:HA prog Q n ds w0 cs L r ((d,res)::l) B ((g,S.S)::Γ)):HA prog Q n ds w0 cs L ((false,i,m)::r) l B Γ:=by simp only [Prod.mk.injEq] at e;exact ajt g S res e.1 e.2.1 e.2.2.1 e.2.2.2.1 e.2.2.2.2.1 e.2.2.2.2.2.1 (cZ e.2.2.2.2.2.2) (fun _ _ _=>DY) h
variable {ord:Option (List Nat)} {l0:Fr} {B0:Bx} {Γ0:Gm} {tr:Tr}
theorem ah {d:Nat} {o:Oper} {f:FuncId} {xs:List Operand} {ats:Array TypeId} {ss:List SV} {rd gs:List Nat} {lr:Fr} {Γr:Gm} (g:Nat) {S:RS} {res:SV} (e:(nth L (oi ord tr.length),o.op,o.dst,Di L o.guard++Uk xs,kX (vS l0 tr) rd,lJ L lr o.guard,evs lr xs,Pk ss,qb (Eg Γ0 tr) gs,okF f)=(some o,.call { callee:=.value (.func f),args:=xs.toArray,argTypes:=ats },some d,rd,lr,some true,some ss,gs,Γr,true)) (DY:∀ {α γ w},Holds w0 [] Γr α γ w→Calls prog f (dU α γ ss).toArray w (fun e w'=>∃ F,(∀ k,bU (F k)=true)∧e = .returned (den α (upd γ g F) res)∧S.R w' F∧aS w w')) (h:DA prog Q n ds w0 cs L ord l0 B0 Γ0 (⟨some d,res,rd,[],gs,none,none,some (g,S.S)⟩::tr)):DA prog Q n ds w0 cs L ord l0 B0 Γ0 tr:=by simp only [Prod.mk.injEq] at e;exact adA g S res e.1 e.2.1 e.2.2.1 e.2.2.2.1 e.2.2.2.2.1 e.2.2.2.2.2.1 e.2.2.2.2.2.2.1 e.2.2.2.2.2.2.2.1 e.2.2.2.2.2.2.2.2.1 (cZ e.2.2.2.2.2.2.2.2.2) (fun _ _ _=>DY) h
variable {P:Program}
theorem bC {d:Nat} {o:Oper} {rd gs:List Nat} {lr:Fr} {Γr:Gm} {op:BinOp} {tx ty:TypeId} {x y:Operand} {sx sy:SV} (s:SV) (e:(nth L (oi ord tr.length),o.op,o.dst,Di L o.guard++(sD x++sD y),kX (vS l0 tr) rd,lJ L lr o.guard,ev lr x,ev lr y,gsO sx++gsO sy,qb (Eg Γ0 tr) gs)=(some o,.binOp op tx x y ty,some d,rd,lr,some true,some sx,some sy,gs,Γr)) (hr:∀ {α γ w},Holds w0 [] Γr α γ w→Bn P op tx x y (den α γ sx) (den α γ sy) w = .ok (den α γ s) w) (h:DA P Q n ds w0 cs L ord l0 B0 Γ0 (⟨some d,s,rd,[],gs,none,none,none⟩::tr)):DA P Q n ds w0 cs L ord l0 B0 Γ0 tr:=ajy s e (fun _ _ _=>hr) h
theorem aJ {T:TI} (hT:BX P T) {fn:Func} {R:Ending→World→Prop} {xs:List ResultVar} {ss:List SV} {cs0:List Code} (e:(SB 200 cs0,fn.results,Ph T l B xs)=(.ret::cs,xs.toArray,some ss)) (h:∀ {α γ w},Holds w0 B Γ α γ w→R (.returned (den α γ (tup ss))) w):HV P (bodyPost P fn R) n [] w0 cs0 l B Γ:=agK hT e fun _ _ _=>h
end
end Rf
namespace Fm
open Dy
theorem b_pos {b:Nat} (hb:2≤b):(0:Rat)<((b:Int):Rat):=by have:((0:Int):Rat)<((b:Int):Rat):=Rat.intCast_lt_intCast.2 (by omega);exact this
theorem ajd {b:Nat} (hb:2≤b):((b:Int):Rat)≠0:=Rat.ne_of_gt (b_pos hb)
def bp (b:Nat) (e:Int):Rat:=((b:Int):Rat)^e
theorem rE {b:Nat} (hb:2≤b) (e:Int):0<bp b e:=Rat.zpow_pos (b_pos hb)
theorem Aj {b:Nat} (hb:2≤b) (e:Int):bp b e≠0:=Rat.ne_of_gt (rE hb e)
theorem Kr {b:Nat} (hb:2≤b) (x y:Int):bp b (x+y)=bp b x*bp b y:=Rat.zpow_add (ajd hb) x y
theorem uX (b k:Nat):bp b (k:Int)=(((b^k:Nat):Int):Rat):=by unfold bp;rw [Rat.zpow_natCast];grind
theorem Xk (b:Nat):bp b 1=((b:Int):Rat):=by have:=uX b 1;rw [Nat.pow_one] at this;exact this
theorem aab (b:Nat):bp b 0=1:=by unfold bp;exact Rat.zpow_zero _
theorem wJ {b:Nat} (hb:2≤b) (e:Int):bp b e*bp b (-e)=1:=by rw [← Kr hb,show e + -e=0 by omega,aab]
def dg (b:Nat) (s:Rat) (e:Int):Int:=(s*bp b (-e)).floor
theorem jJ {b:Nat} (hb:2≤b) {s:Rat} (hs:0≤s) (e:Int):0≤dg b s e:=by unfold dg;rw [agz];exact Rat.mul_nonneg hs (Rat.le_of_lt (rE hb _))
theorem adh {x:Rat} {b:Nat} (hb:2≤b) {y:Rat} (hy:y*((b:Int):Rat)=x):y.floor=x.floor/(b:Int):=by
 have h1:=QU x;have h2:=QV x;have hp:=b_pos hb;generalize x.floor=m at *;have e1:=Int.mul_ediv_add_emod m b;have e2:=Int.emod_nonneg m (show (b:Int)≠0 by omega);have e3:=Int.emod_lt_of_pos m (show (0:Int)<b by omega);generalize hn:m/(b:Int)=n at *;refine Xh ?_ ?_
 · refine Rat.le_of_mul_le_mul_right (c:=((b:Int):Rat)) ?_ hp;rw [hy];refine Rat.le_trans ?_ h1;rw [← Rat.intCast_mul];exact Rat.intCast_le_intCast.2 (by rw [Int.mul_comm];omega)
 · refine Rat.lt_of_mul_lt_mul_right (c:=((b:Int):Rat)) ?_ (Rat.le_of_lt hp);rw [hy];have h5:((m+1:Int):Rat)≤(((n+1)*b:Int):Rat):=Rat.intCast_le_intCast.2 (by rw [Int.add_mul,Int.mul_comm n];omega);grind
theorem dg_succ {b:Nat} (hb:2≤b) (s:Rat) (e:Int):dg b s (e+1)=dg b s e/(b:Int):=by unfold dg;refine adh hb ?_;rw [Rat.mul_assoc,← Xk,← Kr hb,show -(e+1)+1 = -e by omega]
def Fit (b p:Nat) (lo:Int) (s:Rat) (e:Int):Prop:=lo≤e∧dg b s e<((b^p:Nat):Int)∧(e=lo∨((b^(p-1):Nat):Int)≤dg b s e)
theorem xe {b:Nat} (hb:2≤b) (s:Rat) (e:Int):∀ k:Nat,dg b s (e+k)=dg b s e/((b^k:Nat):Int)
 | 0=>by rw [Nat.pow_zero];simp
 | k+1=>by rw [show e+((k+1:Nat):Int)=(e+k)+1 by omega,dg_succ hb,xe hb s e k,Nat.pow_succ,Int.natCast_mul,Int.ediv_ediv_of_nonneg (by omega)]
theorem Fit.le {b p:Nat} (hb:2≤b) (hp:1≤p) {lo e f:Int} {s:Rat} (h:Fit b p lo s e) (g:Fit b p lo s f):f≤e:=by
 obtain ⟨h1,h2,h3⟩:=h;obtain ⟨g1,g2,g3⟩:=g;by_cases hl:f≤e
 · exact hl
 · exfalso;obtain ⟨k,hk⟩:∃ k:Nat,f=e+(k+1:Nat):=⟨(f-e-1).toNat,by omega⟩;subst hk;rcases g3 with g3 | g3
   · omega
   · rw [xe hb] at g3;have h4:dg b s e/((b^(k+1):Nat):Int)<((b^(p-1):Nat):Int):=(by refine Int.ediv_lt_of_lt_mul (by have:=Nat.pow_pos (n:=k+1) (show 0<b by omega);omega) ?_;refine Int.lt_of_lt_of_le h2 ?_;rw [← Int.natCast_mul,← Nat.pow_add];exact Int.ofNat_le.2 (Nat.pow_le_pow_right (by omega) (by omega)));omega
theorem Fit.uniq {b p:Nat} (hb:2≤b) (hp:1≤p) {lo e f:Int} {s:Rat} (h:Fit b p lo s e) (g:Fit b p lo s f):e=f:=Int.le_antisymm (g.le hb hp h) (h.le hb hp g)
theorem aac {b p:Nat} (hb:2≤b) (hp:1≤p) {s:Rat} {e:Int} (h:((b^p:Nat):Int)≤dg b s e):((b^(p-1):Nat):Int)≤dg b s (e+1):=by rw [dg_succ hb];refine Int.le_ediv_of_mul_le (by omega) ?_;rw [← Int.natCast_mul,← Nat.pow_succ,show (p-1).succ=p by omega];omega
theorem Jd {b p:Nat} (hb:2≤b) (hp:1≤p) {s:Rat} {lo:Int}:∀ k:Nat,dg b s (lo+k)<((b^p:Nat):Int)→∃ e,Fit b p lo s e∧e≤lo+k
 | 0,h=>⟨lo,⟨Int.le_refl _,by rw [show lo+((0:Nat):Int)=lo by omega] at h;exact h,.inl rfl⟩,by omega⟩
 | k+1,h=>by
  by_cases h1:dg b s (lo+k)<((b^p:Nat):Int)
  · obtain ⟨e,h2,h3⟩:=Jd hb hp k h1;exact ⟨e,h2,by omega⟩
  · have h2:=aac hb hp (s:=s) (e:=lo+k) (by omega);rw [show lo+(k:Int)+1=lo+((k+1:Nat):Int) by omega] at h2;exact ⟨lo+((k+1:Nat):Int),⟨by omega,h,.inr h2⟩,Int.le_refl _⟩
theorem kZ {b p:Nat} (hb:2≤b) (hp:1≤p) {s:Rat} (hs:0≤s) (lo:Int):∃ e,Fit b p lo s e:=by have h0:=jJ hb hs lo;obtain ⟨n,hn⟩:=Int.eq_ofNat_of_zero_le h0;obtain ⟨e,h,_⟩:=Jd hb hp (s:=s) (lo:=lo) n (by rw [xe hb,hn];have h1:n<b^n:=Nat.lt_pow_self (by omega);have h2:((n:Nat):Int)/((b^n:Nat):Int)=0:=Int.ediv_eq_zero_of_lt (by omega) (by omega);rw [h2];have:=Nat.pow_pos (n:=p) (show 0<b by omega);omega);exact ⟨e,h⟩
theorem Fit.above {b p:Nat} (hb:2≤b) (hp:1≤p) {lo e f:Int} {s:Rat} (h:Fit b p lo s f) (he:lo≤e) (g:((b^p:Nat):Int)≤dg b s e):e<f:=by
 obtain ⟨h1,h2,_⟩:=h;by_cases hl:e<f
 · exact hl
 · exfalso;obtain ⟨k,hk⟩:∃ k:Nat,e=f+k:=⟨(e-f).toNat,by omega⟩;subst hk;rw [xe hb] at g;have hk0:=Nat.pow_pos (n:=k) (show 0<b by omega);have h3:dg b s f/((b^k:Nat):Int)<((b^p:Nat):Int):=(by refine Int.ediv_lt_of_lt_mul (by omega) (Int.lt_of_lt_of_le h2 ?_);exact Int.ofNat_le.2 (Nat.le_mul_of_pos_right _ hk0));omega
theorem Fit.below {b p:Nat} (hb:2≤b) (hp:1≤p) {lo e f:Int} {s:Rat} (h:Fit b p lo s f) (he:lo<e) (g:dg b s e<((b^(p-1):Nat):Int)):f<e:=by
 obtain ⟨h1,h2,h3⟩:=h;by_cases hl:f<e
 · exact hl
 · exfalso;rcases h3 with h3 | h3
   · omega
   · obtain ⟨k,hk⟩:∃ k:Nat,f=e+k:=⟨(f-e).toNat,by omega⟩;subst hk;rw [xe hb] at h3;have hk0:=Nat.pow_pos (n:=k) (show 0<b by omega);have h4:dg b s e/((b^k:Nat):Int)<((b^(p-1):Nat):Int):=(by refine Int.ediv_lt_of_lt_mul (by omega) (Int.lt_of_lt_of_le g ?_);exact Int.ofNat_le.2 (Nat.le_mul_of_pos_right _ hk0));omega
def Nf (b p:Nat) (lo m e:Int):Prop:=lo≤e∧0<m∧m<((b^p:Nat):Int)∧(e=lo∨((b^(p-1):Nat):Int)≤m)
def vl (b:Nat) (m e:Int):Rat:=(m:Rat)*bp b e
theorem zo {b:Nat} (hb:2≤b) (m e:Int):dg b (vl b m e) e=m:=by unfold dg vl;rw [Rat.mul_assoc,wJ hb,Rat.mul_one];exact Oo m
theorem Nf.fit {b p:Nat} (hb:2≤b) {lo m e:Int} (h:Nf b p lo m e):Fit b p lo (vl b m e) e:=by obtain ⟨h1,h2,h3,h4⟩:=h;exact ⟨h1,by rw [zo hb];exact h3,by rw [zo hb];exact h4⟩
theorem Nf.uniq {b p:Nat} (hb:2≤b) (hp:1≤p) {lo m e n f:Int} (h:Nf b p lo m e) (g:Nf b p lo n f) (heq:vl b m e=vl b n f):m=n∧e=f:=by have h1:=h.fit hb;rw [heq] at h1;obtain rfl:=Fit.uniq hb hp h1 (g.fit hb);have h2:=zo hb m e;rw [heq,zo hb] at h2;omega
theorem Qr {b:Nat} (hb:2≤b) (m e:Int):vl b (m*b) e=vl b m (e+1):=by unfold vl;rw [Kr hb,Xk,Rat.intCast_mul];grind
theorem xO {b:Nat} (hb:2≤b) (m e:Int) (k:Nat):vl b (m*((b^k:Nat):Int)) e=vl b m (e+k):=by unfold vl;rw [Kr hb,uX,Rat.intCast_mul];grind
theorem vW {b:Nat} (hb:2≤b) {m n e:Int}:vl b m e<vl b n e↔m<n:=by unfold vl;rw [Rat.mul_lt_mul_right (rE hb e),Rat.intCast_lt_intCast]
theorem rR {b:Nat} (hb:2≤b) {m n e:Int}:vl b m e≤vl b n e↔m≤n:=by rw [← Rat.not_lt,vW hb,Int.not_lt]
theorem Nf.Oy {b p:Nat} (hb:2≤b) (hp:1≤p) {lo m e n f:Int} (h:Nf b p lo m e) (g:Nf b p lo n f) (hef:e<f):vl b m e<vl b n f:=by
 obtain ⟨h1,h2,h3,h4⟩:=h;obtain ⟨g1,g2,g3,g4⟩:=g;obtain ⟨k,hk⟩:∃ k:Nat,f=e+(k+1:Nat):=⟨(f-e-1).toNat,by omega⟩;subst hk;rw [← xO hb,vW hb];refine Int.lt_of_lt_of_le h3 ?_;rcases g4 with g4 | g4
 · omega
 · refine Int.le_trans ?_ (Int.mul_le_mul_of_nonneg_right g4 (by omega));rw [← Int.natCast_mul,← Nat.pow_add];exact Int.ofNat_le.2 (Nat.pow_le_pow_right (by omega) (by omega))
theorem yl {b:Nat} (hb:2≤b) (s:Rat) (e:Int):s*bp b (-e)*bp b e=s:=by have:=wJ hb e;grind
theorem IQ {b:Nat} (hb:2≤b) (s:Rat) (e:Int):vl b (dg b s e) e≤s:=by have h:=Rat.mul_le_mul_of_nonneg_right (QU (s*bp b (-e))) (Rat.le_of_lt (rE hb e));rw [yl hb] at h;exact h
theorem Iz {b:Nat} (hb:2≤b) (s:Rat) (e:Int):s<vl b (dg b s e+1) e:=by have h:=(Rat.mul_lt_mul_right (rE hb e)).2 (QV (s*bp b (-e)));rw [yl hb] at h;unfold vl;rw [Rat.intCast_add];exact h
def kY (b p:Nat) (m e:Int):Int × Int:=if m=((b^p:Nat):Int) then (((b^(p-1):Nat):Int),e+1) else (m,e)
theorem xu {b p:Nat} (hb:2≤b) (hp:1≤p) (m e:Int):vl b (kY b p m e).1 (kY b p m e).2=vl b m e:=by
 unfold kY;split
 · next h =>subst h;rw [← Qr hb,← Int.natCast_mul,← Nat.pow_succ,show (p-1).succ=p by omega]
 · rfl
theorem Kt {b p:Nat} (hb:2≤b) (hp:1≤p) {lo m e:Int} (h1:lo≤e) (h2:0<m) (h3:m≤((b^p:Nat):Int)) (h4:e=lo∨((b^(p-1):Nat):Int)≤m):Nf b p lo (kY b p m e).1 (kY b p m e).2:=by
 unfold kY;split
 · next h =>have hk:=Nat.pow_pos (n:=p-1) (show 0<b by omega);refine ⟨by show lo≤e+1;omega,by show (0:Int)<((b^(p-1):Nat):Int);omega,?_,.inr (Int.le_refl _)⟩;exact Int.ofNat_lt.2 (Nat.pow_lt_pow_right (by omega) (by omega))
 · next h=>exact ⟨h1,h2,by show m<_;omega,h4⟩
theorem oJ {b p:Nat} (hb:2≤b) (hp:1≤p) {lo m e f:Int} {s:Rat} (h:Fit b p lo s e) (g:Nf b p lo m f):vl b m f≤vl b (dg b s e) e∨vl b (dg b s e+1) e≤vl b m f:=by
 obtain ⟨h1,h2,h3⟩:=h;obtain ⟨g1,g2,g3,g4⟩:=g;have pw:∀ k:Nat,∀ x:Int,((b^(p-1):Nat):Int)≤x→((b^p:Nat):Int)≤x*((b^(k+1):Nat):Int):=fun k x hx=>by refine Int.le_trans ?_ (Int.mul_le_mul_of_nonneg_right hx (by omega));rw [← Int.natCast_mul,← Nat.pow_add];exact Int.ofNat_le.2 (Nat.pow_le_pow_right (by omega) (by omega))
 rcases Int.lt_trichotomy f e with hl | hl | hl
 · left;obtain ⟨k,hk⟩:∃ k:Nat,e=f+(k+1:Nat):=⟨(e-f-1).toNat,by omega⟩;rcases h3 with h3 | h3
   · omega
   · have h4:=pw k _ h3;subst hk;rw [← xO hb,rR hb];omega
 · subst hl;rw [rR hb,rR hb];omega
 · right;obtain ⟨k,hk⟩:∃ k:Nat,f=e+(k+1:Nat):=⟨(f-e-1).toNat,by omega⟩;subst hk;rcases g4 with g4 | g4
   · omega
   · have h4:=pw k _ g4;rw [← xO hb,rR hb];omega
theorem Nf.next {b p:Nat} (hb:2≤b) (hp:1≤p) {lo m e:Int} (h:Nf b p lo m e):Nf b p lo (kY b p (m+1) e).1 (kY b p (m+1) e).2:=by obtain ⟨h1,h2,h3,h4⟩:=h;exact Kt hb hp h1 (by omega) (by omega) (by omega)
theorem nZ {b:Nat} (hb:2≤b) {m e:Int}:0<vl b m e↔0<m:=by have:=vW hb (m:=0) (n:=m) (e:=e);rw [show vl b 0 e=0 by unfold vl;exact Rat.zero_mul _] at this;exact this
def eO (d:Nat) (neg odd:Bool) (r:Rat):Bool :=
 if d=0 then decide (1/2<r)||decide (r=1/2)&&odd else if d=1 then decide (1/2≤r) else if d=3 then !neg&&decide (0<r) else if d=4 then neg&&decide (0<r) else false
def rest (b:Nat) (s:Rat) (e:Int):Rat:=s*bp b (-e)-((dg b s e:Int):Rat)
theorem oW {b:Nat} (s:Rat) (e:Int):0≤rest b s e∧rest b s e<1:=by unfold rest dg;have h1:=QU (s*bp b (-e));have h2:=QV (s*bp b (-e));grind
theorem yB {b:Nat} (hb:2≤b) {s:Rat} {e:Int}:rest b s e=0↔vl b (dg b s e) e=s:=by
 have h:=yl hb s e;unfold rest vl;constructor
 · grind
 · intro h1;have h2:=wJ hb e;grind
def qo (b d:Nat) (neg:Bool) (s:Rat) (e:Int):Int:=dg b s e+if eO d neg (decide (dg b s e%2=1)) (rest b s e) then 1 else 0
theorem CQ (b d:Nat) (neg:Bool) (s:Rat) (e:Int):qo b d neg s e=dg b s e∨qo b d neg s e=dg b s e+1:=by unfold qo;omega
theorem aad {b p:Nat} (hb:2≤b) (d:Nat) (neg:Bool) (m e:Int):qo b d neg (vl b m e) e=m:=by
 have h1:=zo hb m e;have h2:rest b (vl b m e) e=0:=(yB hb).2 (by rw [h1]);unfold qo;rw [h2,h1];have h3:eO d neg (decide (m%2=1)) 0=false:=by unfold eO;simp only [show ¬ (1:Rat)/2<0 by grind,show ¬ (0:Rat)=1/2 by grind,show ¬ (1:Rat)/2≤0 by grind,show ¬ (0:Rat)<0 by grind,decide_false,Bool.and_false,Bool.false_and,Bool.or_false];grind
 rw [h3];simp
theorem SY {d:Nat} {neg odd:Bool} {r r':Rat} (h:r≤r') (g:eO d neg odd r=true):eO d neg odd r'=true:=by unfold eO at *;grind
theorem agA {b:Nat} (hb:2≤b) {s:Rat} {n e:Int} (h1:vl b n e≤s) (h2:s<vl b (n+1) e):dg b s e=n:=by have h3:=IQ hb s e;have h4:=Iz hb s e;have a:n<dg b s e+1:=(vW hb).1 (Rat.not_le.1 fun h6=>Rat.not_lt.2 (Rat.le_trans h6 h1) h4);have c:dg b s e<n+1:=(vW hb).1 (Rat.not_le.1 fun h6=>Rat.not_lt.2 (Rat.le_trans h6 h3) h2);omega
theorem Fit.same {b p:Nat} (hb:2≤b) {lo e:Int} {s t:Rat} (h:Fit b p lo s e) (h1:s≤t) (h2:t<vl b (dg b s e+1) e):Fit b p lo t e∧dg b t e=dg b s e:=by have h3:=agA hb (s:=t) (n:=dg b s e) (e:=e) (Rat.le_trans (IQ hb s e) h1) h2;obtain ⟨a,c,d⟩:=h;exact ⟨⟨a,by rw [h3];exact c,by rw [h3];exact d⟩,h3⟩
theorem S9 {b:Nat} (hb:2≤b) {s t:Rat} {e:Int} (h:s≤t) (hd:dg b t e=dg b s e):rest b s e≤rest b t e:=by have:=Rat.mul_le_mul_of_nonneg_right h (Rat.le_of_lt (rE hb (-e)));unfold rest;grind
theorem GJ {b p:Nat} (hb:2≤b) (hp:1≤p) {lo e f m:Int} {t:Rat} (ht0:0≤t) (ht:Fit b p lo t f) (g:Nf b p lo m e) (h:vl b m e≤t):vl b m e≤vl b (dg b t f) f:=by
 rcases oJ hb hp ht g with h1 | h1
 · exact h1
 · have:=Iz hb t f;grind
theorem MZ {b p:Nat} (hb:2≤b) (hp:1≤p) {lo e f:Int} {s t:Rat} (d:Nat) (neg:Bool) (h0:0≤s) (hs:Fit b p lo s e) (ht:Fit b p lo t f) (hst:s≤t) :vl b (qo b d neg s e) e≤vl b (qo b d neg t f) f:=by
 have ht0:0≤t:=Rat.le_trans h0 hst;have hLt:vl b (dg b t f) f≤vl b (qo b d neg t f) f:=by rw [rR hb];rcases CQ b d neg t f with h | h<;>omega
 have hn:=jJ hb h0 e;have hnt:=jJ hb ht0 f
 have hLL:vl b (dg b s e) e≤vl b (dg b t f) f:=by
  by_cases hz:dg b s e=0
  · rw [hz,show vl b 0 e=vl b 0 f by unfold vl;rw [Rat.intCast_zero,Rat.zero_mul,Rat.zero_mul],rR hb];exact hnt
  · exact GJ hb hp ht0 ht ⟨hs.1,by omega,hs.2.1,hs.2.2⟩ (Rat.le_trans (IQ hb s e) hst)
 by_cases hu:t<vl b (dg b s e+1) e
 · obtain ⟨h1,h2⟩:=hs.same hb hst hu;obtain rfl:=Fit.uniq hb hp h1 ht;rw [rR hb];unfold qo;rw [h2];have hr:=S9 hb hst h2;split
   · next g=>rw [if_pos (SY hr g)];exact Int.le_refl _
   omega
 · have hu:=Rat.not_lt.1 hu;rcases CQ b d neg s e with h | h
   · grind
   · rw [h];refine Rat.le_trans ?_ hLt;have g:=Kt hb hp (m:=dg b s e+1) hs.1 (by omega) (by have:=hs.2.1;omega) (by rcases hs.2.2 with h | h;exact .inl h;exact .inr (by omega));have:=GJ hb hp ht0 ht g (by rw [xu hb hp];exact hu);rwa [xu hb hp] at this
theorem Nf.wide {b p:Nat} (hb:2≤b) (hp:1≤p) {lo m e:Int} (k:Nat) (h:Nf b p lo m e):Nf b (p+k) (lo-k) (m*((b^k:Nat):Int)) (e-k)∧vl b (m*((b^k:Nat):Int)) (e-k)=vl b m e:=by
 obtain ⟨h1,h2,h3,h4⟩:=h;have hk:=Nat.pow_pos (n:=k) (show 0<b by omega);refine ⟨⟨by omega,Int.mul_pos h2 (by omega),?_,?_⟩,?_⟩
 · rw [Nat.pow_add,Int.natCast_mul];exact Int.mul_lt_mul_of_pos_right h3 (by omega)
 · rcases h4 with h4 | h4
   · left;omega
   · right;rw [show p+k-1=(p-1)+k by omega,Nat.pow_add,Int.natCast_mul];exact Int.mul_le_mul_of_nonneg_right h4 (by omega)
 · rw [xO hb,show e-k+k=e by omega]
theorem Ta {d:Nat} {neg odd:Bool} {r:Rat} (h:d=3∧neg=false∨d=4∧neg=true):eO d neg odd r=decide (0<r):=by unfold eO;grind
theorem Tc {d:Nat} {neg odd:Bool} {r:Rat} (h:d=2∨d=3∧neg=true∨d=4∧neg=false):eO d neg odd r=false:=by unfold eO;grind
theorem rP {b d:Nat} {neg:Bool} (s:Rat) (e:Int) (h:d=2∨d=3∧neg=true∨d=4∧neg=false):qo b d neg s e=dg b s e:=by unfold qo;rw [Tc h];simp
theorem Bi {b d:Nat} {neg:Bool} (s:Rat) (e:Int) (h:d=3∧neg=false∨d=4∧neg=true):qo b d neg s e=dg b s e+if 0<rest b s e then 1 else 0:=by unfold qo;rw [Ta h];grind
theorem Mh {b:Nat} (hb:2≤b) {s:Rat} {e:Int}:0<rest b s e↔vl b (dg b s e) e<s:=by have h1:=oW (b:=b) s e;have h2:=yB hb (s:=s) (e:=e);have h3:=IQ hb s e;grind
inductive Fl where
 | zero (neg:Bool)
 | fin (neg:Bool) (m e:Int)
 | inf (neg:Bool)
def bT (b p:Nat) (lo hi:Int):Fl→Prop
 | .fin _ m e=>Nf b p lo m e∧e≤hi
 | _=>True
def vU (d:Nat) (neg:Bool):Bool:=if d=2 then false else if d=3 then !neg else if d=4 then neg else true
def res (b p:Nat) (hi:Int) (d:Nat) (neg:Bool) (m e:Int):Fl :=
 if (kY b p m e).1=0 then .zero neg else if (kY b p m e).2≤hi then .fin neg (kY b p m e).1 (kY b p m e).2 else if vU d neg then .inf neg else .fin neg (((b^p:Nat):Int)-1) hi
def Rd (b p:Nat) (lo hi:Int) (d:Nat) (q:Rat) (x:Fl):Prop :=
 q=0∧x = .zero false∨q≠0∧∃ e,Fit b p lo (if q<0 then -q else q) e∧x=res b p hi d (decide (q<0)) (qo b d (decide (q<0)) (if q<0 then -q else q) e) e
theorem rQ {b p:Nat} (hb:2≤b) (hp:1≤p) {lo hi:Int} (h:lo≤hi):Nf b p lo (((b^p:Nat):Int)-1) hi:=by
 have h1:b^p=b^(p-1)*b:=by rw [← Nat.pow_succ,show (p-1).succ=p by omega]
 have hk:=Nat.pow_pos (n:=p-1) (show 0<b by omega);have h2:b^(p-1)*2≤b^p:=by rw [h1];exact Nat.mul_le_mul_left _ hb
 exact ⟨h,by omega,by omega,.inr (by omega)⟩
theorem qZ {b p:Nat} (hb:2≤b) {lo e:Int} {s:Rat} (d:Nat) (neg:Bool) (h0:0≤s) (h:Fit b p lo s e):0≤qo b d neg s e∧qo b d neg s e≤((b^p:Nat):Int)∧(e=lo∨((b^(p-1):Nat):Int)≤qo b d neg s e):=by
 have hn:=jJ hb h0 e;obtain ⟨h1,h2,h3⟩:=h;rcases CQ b d neg s e with h4 | h4<;>rw [h4]<;>refine ⟨by omega,by omega,?_⟩<;>rcases h3 with h3 | h3
 · exact .inl h3
 · exact .inr h3
 · exact .inl h3
 omega
theorem adi {b p:Nat} (hb:2≤b) (hp:1≤p) {lo hi m e:Int} (d:Nat) (neg:Bool) (hl:lo≤hi) (he:lo≤e) (h0:0≤m) (h1:m≤((b^p:Nat):Int)) (h2:e=lo∨((b^(p-1):Nat):Int)≤m):bT b p lo hi (res b p hi d neg m e):=by
 unfold res;split
 · trivial
 · next hz =>
   have hk:=Nat.pow_pos (n:=p) (show 0<b by omega)
   have hm:0<m:=by
    rcases Int.lt_or_le 0 m with h | h
    · exact h
    · obtain rfl:m=0:=(by omega);exfalso;apply hz;unfold kY;grind
   have h3:=Kt hb hp he hm h1 h2;split
   · next h4=>exact ⟨h3,h4⟩
   · split
     · trivial
     · exact ⟨rQ hb hp hl,Int.le_refl _⟩
theorem Rd.ok {b p:Nat} (hb:2≤b) (hp:1≤p) {lo hi:Int} {d:Nat} {q:Rat} {x:Fl} (hl:lo≤hi) (h:Rd b p lo hi d q x):bT b p lo hi x:=by
 rcases h with ⟨_,rfl⟩ | ⟨hq,e,hf,rfl⟩
 · trivial
 · have h0:0≤(if q<0 then -q else q):=(by split<;>grind);obtain ⟨a,c,f⟩:=qZ hb d (decide (q<0)) h0 hf;exact adi hb hp d _ hl hf.1 a c f
theorem Rd.uniq {b p:Nat} (hb:2≤b) (hp:1≤p) {lo hi:Int} {d:Nat} {q:Rat} {x y:Fl} (h:Rd b p lo hi d q x) (g:Rd b p lo hi d q y):x=y:=by
 rcases h with ⟨h1,rfl⟩ | ⟨h1,e,h2,rfl⟩<;>rcases g with ⟨g1,rfl⟩ | ⟨g1,f,g2,rfl⟩
 · rfl
 · grind
 · grind
 · obtain rfl:=Fit.uniq hb hp h2 g2;rfl
theorem Rd.own {b p:Nat} (hb:2≤b) (hp:1≤p) {lo hi m e:Int} (d:Nat) (neg:Bool) (h:Nf b p lo m e) (he:e≤hi):Rd b p lo hi d (if neg then -vl b m e else vl b m e) (.fin neg m e):=by
 have hv:0<vl b m e:=(nZ hb).2 h.2.1;have h1:qo b d neg (vl b m e) e=m:=aad (p:=p) hb d neg m e;have h2:res b p hi d neg m e = .fin neg m e:=by unfold res kY;have:=h.2.2.1;have:=h.2.1;grind
 cases neg with
 | false =>
  refine .inr ⟨by show vl b m e≠0;exact Rat.ne_of_gt hv,e,?_,?_⟩
  · show Fit b p lo (if vl b m e<0 then _ else vl b m e) e;rw [if_neg (Rat.not_lt.2 (Rat.le_of_lt hv))];exact h.fit hb
  grind
 | true =>
  have hn : -vl b m e<0:=by grind
  refine .inr ⟨by show -vl b m e≠0;grind,e,?_,?_⟩
  · show Fit b p lo (if -vl b m e<0 then - -vl b m e else _) e;rw [if_pos hn,Rat.neg_neg];exact h.fit hb
  simp_all
def sv (neg:Bool) (v:Rat):Rat:=if neg then -v else v
def ext (b p:Nat) (hi:Int):Fl→Rat
 | .zero _=>0
 | .fin neg m e=>sv neg (vl b m e)
 | .inf neg=>sv neg (vl b ((b^p:Nat):Int) hi)
def rT (b p:Nat) (hi:Int) (d:Nat) (neg:Bool) (v:Rat):Rat:=if v<vl b ((b^p:Nat):Int) hi then v else if vU d neg then vl b ((b^p:Nat):Int) hi else vl b (((b^p:Nat):Int)-1) hi
theorem xw {b:Nat} (hb:2≤b) {m e f:Int} (hm:0≤m) (h:e≤f):vl b m e≤vl b m f:=by obtain ⟨k,hk⟩:∃ k:Nat,f=e+k:=⟨(f-e).toNat,by omega⟩;subst hk;rw [← xO hb,rR hb];have:=Nat.pow_pos (n:=k) (show 0<b by omega);have h9:=Int.mul_le_mul_of_nonneg_left (show (1:Int)≤((b^k:Nat):Int) by omega) hm;omega
def Dg (b p:Nat) (lo m e:Int):Prop:=lo≤e∧0≤m∧m≤((b^p:Nat):Int)∧(e=lo∨((b^(p-1):Nat):Int)≤m)
theorem Dg.nf {b p:Nat} (hb:2≤b) (hp:1≤p) {lo m e:Int} (h:Dg b p lo m e) (hz:(kY b p m e).1≠0):Nf b p lo (kY b p m e).1 (kY b p m e).2:=by
 obtain ⟨h1,h2,h3,h4⟩:=h;have hk:=Nat.pow_pos (n:=p) (show 0<b by omega);refine Kt hb hp h1 ?_ h3 h4;rcases Int.lt_or_le 0 m with h | h
 · exact h
 · obtain rfl:m=0:=(by omega);exfalso;apply hz;unfold kY;grind
theorem Ot {b p:Nat} (hb:2≤b) (hp:1≤p) (hi:Int):vl b ((b^(p-1):Nat):Int) (hi+1)=vl b ((b^p:Nat):Int) hi:=by rw [← Qr hb,← Int.natCast_mul,← Nat.pow_succ,show (p-1).succ=p by omega]
theorem Nf.iw {b p:Nat} (hb:2≤b) {lo hi m e:Int} (h:Nf b p lo m e) (he:e≤hi):vl b m e<vl b ((b^p:Nat):Int) hi:=by have h1:=(vW hb (e:=e)).2 h.2.2.1;have h2:=xw hb (m:=((b^p:Nat):Int)) (by omega) he;grind
theorem Nf.M0 {b p:Nat} (hb:2≤b) (hp:1≤p) {lo hi m e:Int} (hl:lo≤hi) (h:Nf b p lo m e) (he:hi<e):vl b ((b^p:Nat):Int) hi≤vl b m e:=by
 rw [← Ot hb hp];obtain ⟨h1,h2,h3,h4⟩:=h;rcases h4 with h4 | h4
 · omega
 · exact Rat.le_trans (xw hb (by omega) (show hi+1≤e by omega)) ((rR hb).2 h4)
theorem Nf.oK {b p:Nat} (hb:2≤b) (hp:1≤p) {lo hi m e:Int} (hl:lo≤hi) (h:Nf b p lo m e) (he:e≤hi):vl b m e≤vl b (((b^p:Nat):Int)-1) hi:=by
 rcases Int.lt_or_eq_of_le he with h1 | rfl
 · exact Rat.le_of_lt (h.Oy hb hp (rQ hb hp hl) h1)
 · rw [rR hb];have:=h.2.2.1;omega
theorem lC (b:Nat) (e:Int):vl b 0 e=0:=by unfold vl;rw [Rat.intCast_zero,Rat.zero_mul]
theorem oZ {b p:Nat} (hb:2≤b) (hi:Int):0<vl b ((b^p:Nat):Int) hi:=(nZ hb).2 (by have:=Nat.pow_pos (n:=p) (show 0<b by omega);omega)
theorem Ev {b p:Nat} (hb:2≤b) (hp:1≤p) {lo hi m e:Int} (d:Nat) (neg:Bool) (hl:lo≤hi) (h:Dg b p lo m e):ext b p hi (res b p hi d neg m e)=sv neg (rT b p hi d neg (vl b m e)):=by
 have hv:=xu hb hp m e;unfold res;split
 · next hz =>rw [hz,lC] at hv;unfold rT;rw [← hv,if_pos (oZ hb hi)];unfold sv ext;grind
 · next hz =>
   have h1:=h.nf hb hp hz;split
   · next he =>have h2:=h1.iw hb he;rw [hv] at h2;unfold rT;rw [if_pos h2];show sv neg (vl b (kY b p m e).1 (kY b p m e).2)=_;rw [hv]
   · next he =>have h2:=h1.M0 hb hp hl (by omega);rw [hv] at h2;unfold rT;rw [if_neg (Rat.not_lt.2 h2)];split<;>rfl
theorem GK {b p:Nat} (hb:2≤b) (hp:1≤p) {lo hi m e n f:Int} (d:Nat) (neg:Bool) (hl:lo≤hi) (h:Dg b p lo m e) (g:vl b m e≤vl b n f):rT b p hi d neg (vl b m e)≤rT b p hi d neg (vl b n f):=by
 have hv:=xu hb hp m e;unfold rT;by_cases h1:vl b m e<vl b ((b^p:Nat):Int) hi
 · rw [if_pos h1];split
   · exact g
   · split
     · grind
     · by_cases hz:(kY b p m e).1=0
       · rw [hz,lC] at hv;rw [← hv];exact Rat.le_of_lt ((nZ hb).2 (rQ hb hp hl).2.1)
       · have h2:=h.nf hb hp hz;have h3:(kY b p m e).2≤hi:=(by refine Int.not_lt.1 fun h4=>?_;have:=h2.M0 hb hp hl h4;grind);have:=h2.oK hb hp hl h3;grind
 grind
theorem vL {b p:Nat} (hb:2≤b) (hp:1≤p) {lo hi:Int} (d:Nat) (neg:Bool) (hl:lo≤hi) {v:Rat} (h:0≤v):0≤rT b p hi d neg v:=by
 unfold rT;split
 · exact h
 · split
   · exact Rat.le_of_lt (oZ hb hi)
   · exact Rat.le_of_lt ((nZ hb).2 (rQ hb hp hl).2.1)
theorem CR {b p:Nat} (hb:2≤b) {lo e:Int} {s:Rat} (d:Nat) (neg:Bool) (h0:0≤s) (h:Fit b p lo s e):Dg b p lo (qo b d neg s e) e:=⟨h.1,qZ hb d neg h0 h⟩
theorem oL {b:Nat} (hb:2≤b) {m e:Int} (h:0≤m):0≤vl b m e:=by have:=(rR hb (m:=0) (n:=m) (e:=e)).2 h;rwa [lC] at this
theorem Rd.pos {b p:Nat} (hb:2≤b) (hp:1≤p) {lo hi:Int} {d:Nat} {q:Rat} {x:Fl} (hl:lo≤hi) (h:Rd b p lo hi d q x) (hq:0<q):∃ e,Fit b p lo q e∧ext b p hi x=rT b p hi d false (vl b (qo b d false q e) e):=by
 rcases h with ⟨h1,_⟩ | ⟨_,e,h2,h3⟩
 · grind
 · have hn:¬ q<0:=Rat.not_lt.2 (Rat.le_of_lt hq);rw [if_neg hn] at h2 h3;rw [decide_eq_false hn] at h3;refine ⟨e,h2,?_⟩;rw [h3,Ev hb hp d false hl (CR hb d false (Rat.le_of_lt hq) h2)];rfl
theorem Rd.neg {b p:Nat} (hb:2≤b) (hp:1≤p) {lo hi:Int} {d:Nat} {q:Rat} {x:Fl} (hl:lo≤hi) (h:Rd b p lo hi d q x) (hq:q<0):∃ e,Fit b p lo (-q) e∧ext b p hi x = -rT b p hi d true (vl b (qo b d true (-q) e) e):=by
 rcases h with ⟨h1,_⟩ | ⟨_,e,h2,h3⟩
 · grind
 · rw [if_pos hq] at h2 h3;rw [decide_eq_true hq] at h3;refine ⟨e,h2,?_⟩;rw [h3,Ev hb hp d true hl (CR hb d true (by grind) h2)];rfl
theorem Rd.mono {b p:Nat} (hb:2≤b) (hp:1≤p) {lo hi:Int} {d:Nat} {q r:Rat} {x y:Fl} (hl:lo≤hi) (h:Rd b p lo hi d q x) (g:Rd b p lo hi d r y) (hqr:q≤r):ext b p hi x≤ext b p hi y:=by
 have TN:∀ {q:Rat} {x:Fl},Rd b p lo hi d q x→(0≤q→0≤ext b p hi x)∧(q≤0→ext b p hi x≤0):=fun {q x} h=>by
  by_cases h0:q=0
  · rcases h with ⟨_,rfl⟩ | ⟨h1,_⟩
    · exact ⟨fun _=>Rat.le_refl,fun _=>Rat.le_refl⟩
    grind
  · constructor
    · intro hq;have hq1:0<q:=Rat.not_le.1 fun h1=>h0 (Rat.le_antisymm h1 hq);obtain ⟨e,h1,h2⟩:=h.pos hb hp hl hq1;rw [h2];exact vL hb hp d false hl (oL hb (qZ hb d false hq h1).1)
    · intro hq;have hq1:q<0:=Rat.not_le.1 fun h1=>h0 (Rat.le_antisymm hq h1);obtain ⟨e,h1,h2⟩:=h.neg hb hp hl hq1;have:=vL hb hp d true hl (oL hb (e:=e) (qZ hb d true (s := -q) (by grind) h1).1);grind
 by_cases h1:0<q
 · obtain ⟨e,h2,h3⟩:=h.pos hb hp hl h1;have hr:0<r:=Rat.not_le.1 fun h6=>Rat.not_lt.2 (Rat.le_trans hqr h6) h1;obtain ⟨f,g2,g3⟩:=g.pos hb hp hl hr;rw [h3,g3];exact GK hb hp d false hl (CR hb d false (Rat.le_of_lt h1) h2) (MZ hb hp d false (Rat.le_of_lt h1) h2 g2 hqr)
 · by_cases h4:r<0
   · obtain ⟨f,g2,g3⟩:=g.neg hb hp hl h4;have hq:q<0:=Rat.not_le.1 fun h6=>Rat.not_lt.2 (Rat.le_trans h6 hqr) h4;obtain ⟨e,h2,h3⟩:=h.neg hb hp hl hq;have:=GK hb hp d true hl (CR hb d true (s := -r) (by grind) g2) (MZ hb hp d true (s := -r) (t := -q) (by grind) g2 h2 (by grind));grind
   grind
def Fl.turn:Fl→Fl
 | .zero neg=>.zero (!neg)
 | .fin neg m e=>.fin (!neg) m e
 | .inf neg=>.inf (!neg)
def tn (d:Nat):Nat:=if d>2 then 7-d else d
theorem Td {d:Nat} (hd:d<5) (neg odd:Bool) (r:Rat):eO (tn d) (!neg) odd r=eO d neg odd r:=by
 match d,hd with
 | 0,_=>rfl
 | 1,_=>rfl
 | 2,_=>rfl
 | 3,_=>cases neg<;>simp [eO,tn]
 | 4,_=>cases neg<;>simp [eO,tn]
theorem O6 {d:Nat} (hd:d<5) (neg:Bool):vU (tn d) (!neg)=vU d neg:=by
 match d,hd with
 | 0,_=>rfl
 | 1,_=>rfl
 | 2,_=>rfl
 | 3,_=>cases neg<;>rfl
 | 4,_=>cases neg<;>rfl
theorem Xl {b d:Nat} (hd:d<5) (neg:Bool) (s:Rat) (e:Int):qo b (tn d) (!neg) s e=qo b d neg s e:=by unfold qo;rw [Td hd]
theorem Xm {b p:Nat} {d:Nat} (hd:d<5) (hi:Int) (neg:Bool) (m e:Int):res b p hi (tn d) (!neg) m e=(res b p hi d neg m e).turn:=by
 unfold res;rw [O6 hd];split
 · rfl
 · split
   · rfl
   · split<;>rfl
theorem Rd.turned {b p:Nat} {lo hi:Int} {d:Nat} (hd:d<5) {q:Rat} {x:Fl} (hq:q≠0) (h:Rd b p lo hi d q x):Rd b p lo hi (tn d) (-q) x.turn:=by
 rcases h with ⟨h1,_⟩ | ⟨_,e,h2,h3⟩
 · grind
 · have hs:(if -q<0 then - -q else -q)=(if q<0 then -q else q):=(by grind);have hn:decide (-q<0) = !decide (q<0):=(by grind);refine .inr ⟨by grind,e,by rw [hs];exact h2,?_⟩;rw [hs,hn,Xl hd,Xm hd,← h3]
theorem oh {b p:Nat} {hi:Int} (x:Fl):ext b p hi x.turn = -ext b p hi x:=by
 cases x with
 | zero n=>unfold ext Fl.turn;simp
 | fin n m e=>cases n<;>simp [ext,Fl.turn,sv]
 | inf n=>cases n<;>simp [ext,Fl.turn,sv]
theorem aae {b p:Nat} (hb:2≤b) {d:Nat} {neg:Bool} {s:Rat} {e:Int} (hd:d=3∧neg=false∨d=4∧neg=true):s≤vl b (qo b d neg s e) e:=by
 rw [Bi (b:=b) s e hd];by_cases hr:0<rest b s e
 · rw [if_pos hr];exact Rat.le_of_lt (Iz hb s e)
 · rw [if_neg hr,Int.add_zero,(yB hb).1 (Rat.le_antisymm (Rat.not_lt.1 hr) (oW s e).1)];grind
theorem O7 {b p:Nat} (hb:2≤b) (hp:1≤p) {d:Nat} {neg:Bool} {lo e m f:Int} {s:Rat} (hd:d=3∧neg=false∨d=4∧neg=true) (h:Fit b p lo s e) (g:Nf b p lo m f) (hs:s≤vl b m f):vl b (qo b d neg s e) e≤vl b m f:=by
 rw [Bi (b:=b) s e hd];by_cases hr:0<rest b s e
 · rw [if_pos hr];rcases oJ hb hp h g with h1 | h1
   · exact absurd (Rat.le_trans hs h1) (Rat.not_le.2 ((Mh hb).1 hr))
   · exact h1
 · rw [if_neg hr,Int.add_zero,(yB hb).1 (Rat.le_antisymm (Rat.not_lt.1 hr) (oW s e).1)];exact hs
theorem Rd.down {b p:Nat} (hb:2≤b) (hp:1≤p) {lo hi:Int} {q:Rat} {x:Fl} (hl:lo≤hi) (h:Rd b p lo hi 4 q x) :(ext b p hi x≤q∨x = .inf true)∧∀ y,bT b p lo hi y→(∀ n,y≠.inf n)→ext b p hi y≤q→ext b p hi y≤ext b p hi x:=by
 have ypos:∀ {n:Bool} {m e:Int},Nf b p lo m e→0<vl b m e:=fun h=>(nZ hb).2 h.2.1;rcases h with ⟨rfl,rfl⟩ | ⟨hq,e,hf,hx⟩
 · exact ⟨.inl Rat.le_refl,fun y _ _ h=>h⟩
 · by_cases hn:q<0
   · rw [if_pos hn] at hf hx;rw [decide_eq_true hn] at hx;have hs0:0 ≤ -q:=(by grind);have hD:=CR hb 4 true hs0 hf;have hge:=aae (p:=p) hb (s := -q) (e:=e) (d:=4) (neg:=true) (.inr ⟨rfl,rfl⟩);have hE:=Ev hb hp 4 true hl hD;rw [← hx] at hE;refine ⟨?_,fun y hy hi' hyq=>?_⟩
     · by_cases hc:vl b (qo b 4 true (-q) e) e<vl b ((b^p:Nat):Int) hi
       · left;rw [hE];unfold rT sv;rw [if_pos hc,if_pos rfl];grind
       · right;rw [hx];unfold res;have hv:=xu hb hp (qo b 4 true (-q) e) e;have htp:=oZ (p:=p) hb hi;have hz:(kY b p (qo b 4 true (-q) e) e).1≠0:=fun hz=>by rw [hz,lC] at hv;rw [← hv] at hc;exact hc htp
         rw [if_neg hz,if_neg (fun he=>hc (by have:=(hD.nf hb hp hz).iw hb he;rwa [hv] at this))];rfl
     · cases y with
       | inf n=>exact absurd rfl (hi' n)
       | zero n=>exact absurd hyq (Rat.not_le.2 hn)
       | fin n m f =>
        have hp0:=ypos (n:=n) hy.1;cases n with
        | false=>exact absurd (show vl b m f≤q from hyq) (Rat.not_le.2 (by grind))
        | true =>have hyq : -vl b m f≤q:=hyq;have h1:=O7 hb hp (.inr ⟨rfl,rfl⟩:4=3∧true=false∨4=4∧true=true) hf hy.1 (by grind);have h2:=hy.1.iw hb hy.2;rw [hE];unfold rT sv;show -vl b m f≤_;grind
   · rw [if_neg hn] at hf hx;rw [decide_eq_false hn] at hx;have hs0:0≤q:=Rat.not_lt.1 hn;have hD:=CR hb 4 false hs0 hf;have hE:=Ev hb hp 4 false hl hD;rw [← hx] at hE;rw [rP q e (.inr (.inr ⟨rfl,rfl⟩))] at hE;have hle:=IQ hb q e;have hnn:=oL hb (e:=e) (jJ hb hs0 e);have hg:=rQ hb hp hl;refine ⟨.inl ?_,fun y hy hi' hyq=>?_⟩
     · rw [hE];unfold rT sv;rw [if_neg (by decide)];split
       · exact hle
       · next hc =>have h1:=hg.iw hb (Int.le_refl hi);grind
     · have hE0:0≤ext b p hi x:=(by rw [hE];exact vL hb hp 4 false hl hnn);cases y with
       | inf n=>exact absurd rfl (hi' n)
       | zero n=>exact hE0
       | fin n m f =>
        have hp0:=ypos (n:=n) hy.1;cases n with
        | true=>exact Rat.le_trans (show -vl b m f≤0 by grind) hE0
        | false =>
         have hyq:vl b m f≤q:=hyq;have h1:=GJ hb hp hs0 hf hy.1 hyq;have h2:=hy.1.oK hb hp hl hy.2;show vl b m f≤_;rw [hE];unfold rT sv;rw [if_neg (by decide)];split
         · exact h1
         · exact h2
theorem Cr (x:Fl):x.turn.turn=x:=by cases x<;>simp [Fl.turn]
theorem bT.turn {b p:Nat} {lo hi:Int} {x:Fl} (h:bT b p lo hi x):bT b p lo hi x.turn:=by cases x<;>exact h
theorem Rd.up {b p:Nat} (hb:2≤b) (hp:1≤p) {lo hi:Int} {q:Rat} {x:Fl} (hl:lo≤hi) (h:Rd b p lo hi 3 q x) :(q≤ext b p hi x∨x = .inf false)∧∀ y,bT b p lo hi y→(∀ n,y≠.inf n)→q≤ext b p hi y→ext b p hi x≤ext b p hi y:=by
 by_cases hq:q=0
 · rcases h with ⟨rfl,rfl⟩ | ⟨h1,_⟩
   · exact ⟨.inl Rat.le_refl,fun y _ _ h=>h⟩
   grind
 · have h1:Rd b p lo hi 4 (-q) x.turn:=h.turned (by decide) hq;obtain ⟨h2,h3⟩:=h1.down hb hp hl;rw [oh] at h2;refine ⟨?_,fun y hy hi' hyq=>?_⟩
   · rcases h2 with h2 | h2
     · left;grind
     · right;rw [← Cr x,h2];rfl
   · have h4:=h3 y.turn hy.turn (fun n hn=>hi' (!n) (by rw [← Cr y,hn];rfl)) (by rw [oh];grind);rw [oh,oh] at h4;grind
def iL (b p:Nat) (lo m e:Int):Int × Int:=if lo<e∧m-1<((b^(p-1):Nat):Int) then (((b^p:Nat):Int)-1,e-1) else (m-1,e)
def eG (b p:Nat) (lo hi:Int):Fl→Fl
 | .zero _=>.fin false 1 lo
 | .inf true=>.fin true (((b^p:Nat):Int)-1) hi
 | .inf false=>.inf false
 | .fin false m e=>if (kY b p (m+1) e).2≤hi then .fin false (kY b p (m+1) e).1 (kY b p (m+1) e).2 else .inf false
 | .fin true m e=>if (iL b p lo m e).1=0 then .zero true else .fin true (iL b p lo m e).1 (iL b p lo m e).2
def kR (b p:Nat) (lo hi:Int) (x:Fl):Fl:=(eG b p lo hi x.turn).turn
