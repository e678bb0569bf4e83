/- Base. -/
import Derived.Test.YtgcieamfidoaoaaGreatDoorGax
set_option linter.all false
set_option maxHeartbeats 8000000
set_option maxRecDepth 100000
namespace Go.Proofs.YtgcieamfidoaoaaGreatDoor
open Pl Go.Proofs.Tryz
open Go.RowKit
namespace Dy
def dv (m e:Int):Rat:=(m:Rat)*(2:Rat)^e
def Can (m e:Int):Prop:=m=0∧e=0∨m%2=1
theorem aaa (e:Int):dv 0 e=0:=by unfold dv;exact Rat.zero_mul _
theorem Xh {v:Rat} {n:Int} (h:(n:Rat)≤v) (h2:v<(n:Rat)+1):v.floor=n:=by have h3:((v.floor:Int):Rat)≤v:=Rat.floor_le v;have h4:=Rat.lt_floor_add_one v;have a:n<v.floor+1:=Rat.intCast_lt_intCast.1 (by grind);have b:v.floor<n+1:=Rat.intCast_lt_intCast.1 (by rw [Rat.intCast_add];grind);omega
theorem QU (v:Rat):((v.floor:Int):Rat)≤v:=Rat.floor_le v
theorem QV (v:Rat):v<((v.floor:Int):Rat)+1:=by have:=Rat.lt_floor_add_one v;rw [Rat.intCast_add] at this;exact this
theorem agz {v:Rat} {n:Int}:n≤v.floor↔(n:Rat)≤v:=by
 constructor
 · intro h;have:=Rat.intCast_le_intCast.2 h;have:=QU v;grind
 · intro h;have h4:=QV v;have a:n<v.floor+1:=Rat.intCast_lt_intCast.1 (by rw [Rat.intCast_add];grind);omega
theorem Oo (n:Int):((n:Rat)).floor=n:=Xh Rat.le_refl (by grind)
theorem SX {n d:Int} (hd:0<d):((n:Rat)/(d:Rat)).floor=n/d:=by
 have hd':(0:Rat)<(d:Rat):=by have:=Rat.intCast_lt_intCast.2 hd;exact this
 have h1:n/d*d+n%d=n:=Int.ediv_mul_add_emod n d;have h2:=Int.emod_nonneg n (show d≠0 by omega);have h3:=Int.emod_lt_of_pos n hd;refine Xh ?_ ?_
 · rw [← Rat.not_lt,Rat.div_lt_iff hd',Rat.not_lt,← Rat.intCast_mul];exact Rat.intCast_le_intCast.2 (by omega)
 · rw [Rat.div_lt_iff hd'];have e:((n/d:Int):Rat)+1=((n/d+1:Int):Rat):=(by rw [Rat.intCast_add];rfl);rw [e,← Rat.intCast_mul];exact Rat.intCast_lt_intCast.2 (by rw [Int.add_mul];omega)
end Dy
namespace Rq
theorem Xi {n d:Int} (hd:d≠0):(Rat.divInt n d).num=(if d<0 then -(n/(Nat.gcd n.natAbs d.natAbs:Nat)) else n/(Nat.gcd n.natAbs d.natAbs:Nat)):=by
 rw [Rat.num_divInt,Int.gcd_comm];show d.sign*n/((Nat.gcd n.natAbs d.natAbs:Nat):Int)=_;rcases Int.lt_trichotomy d 0 with h | h | h
 · rw [Int.sign_eq_neg_one_of_neg h,if_pos h,Int.neg_mul,Int.one_mul];exact Int.neg_ediv_of_dvd (Int.ofNat_dvd_left.2 (Nat.gcd_dvd_left _ _))
 · exact absurd h hd
 · rw [Int.sign_eq_one_of_pos h,Int.one_mul,if_neg (by omega)]
theorem Xj {n d:Int} (hd:d≠0):(Rat.divInt n d).den=d.natAbs/Nat.gcd n.natAbs d.natAbs:=by rw [Rat.den_divInt,if_neg hd,Int.gcd_comm];rfl
end Rq
theorem U.xs {w w':World} {N:Nat} {T:TypeId} {cs:List Value} {v:Value} {xs:List Nat} (h:U w v xs) (k:Pl.Xs [N] w w') (hN:Pl.Cb w N T cs) (hc:∀ c∈cs,∀ z,c≠.int .u32 z):U w' v xs:=by
 obtain ⟨A,c,rfl,hl,hx,hr⟩:=h;refine ⟨A,c,rfl,hl,hx,fun h0=>?_⟩;obtain ⟨ad,hA,hb,hcell⟩:=hr h0;have hne:ad.block≠N:=fun e=>by have h1:=hcell 0 h0;unfold World.cell? at h1;rw [aW,e,show w.heap[N]?=_ from hN] at h1;simp at h1;exact hc _ (List.mem_of_getElem? h1.2) _ rfl
 refine ⟨ad,hA,Nat.lt_of_lt_of_le hb k.size,fun j hj=>?_⟩;rw [World.cell?_of_block (w:=w) (k.block _ (by rw [aW];exact hb) (by rw [aW];simpa using hne))];exact hcell j hj
theorem Un.xs {w w':World} {N:Nat} {T:TypeId} {cs:List Value} {v:Value} {n:Nat} (h:Un w v n) (k:Pl.Xs [N] w w') (hN:Pl.Cb w N T cs) (hc:∀ c∈cs,∀ z,c≠.int .u32 z):Un w' v n:=U.xs h k hN hc
theorem iU {n:Nat}:(limbs n).length=0↔n=0:=⟨fun h=>zY.1 (List.eq_nil_of_length_eq_zero h),fun h=>by subst h;rw [bF];rfl⟩
theorem Zn.of {w:World} {A:Option Addr} {c:Nat} {z:Int} (u:Un w (.slice A (limbs z.natAbs).length c) z.natAbs):Zn w (.agg #[.bool (decide (z<0)),.slice A (limbs z.natAbs).length c]) z:=⟨A,c,rfl,u⟩
structure Dd (m e:Int) (x:Rat) (L:Nat) (lo hi:Int):Prop where
 can:Dy.Can m e
 val:Dy.dv m e=x
 sz:Sz m L
 lo:lo≤e
 hi:e≤hi
def Dn (w:World) (v:Value) (x:Rat) (L:Nat) (lo hi:Int):Prop:=∃ m e A c,v = .agg #[.bool (decide (m<0)),.slice A (limbs m.natAbs).length c,.int .i64 e]∧Un w (.slice A (limbs m.natAbs).length c) m.natAbs∧Dd m e x L lo hi
def Qn (w:World) (v:Value) (q:Rat) (L M:Nat):Prop:=∃ A c A2 c2,v = .agg #[.bool (decide (q.num<0)),.slice A (limbs q.num.natAbs).length c,.slice A2 (limbs q.den).length c2]∧Un w (.slice A (limbs q.num.natAbs).length c) q.num.natAbs∧Un w (.slice A2 (limbs q.den).length c2) q.den∧Sz q.num L∧Sn q.den M
theorem Qn.mk {w:World} {A A2:Option Addr} {c c2 L M:Nat} {q:Rat} (u:Un w (.slice A (limbs q.num.natAbs).length c) q.num.natAbs) (u2:Un w (.slice A2 (limbs q.den).length c2) q.den) (h1:Sz q.num L) (h2:Sn q.den M) :Qn w (.agg #[.bool (decide (q.num<0)),.slice A (limbs q.num.natAbs).length c,.slice A2 (limbs q.den).length c2]) q L M:=⟨A,c,A2,c2,rfl,u,u2,h1,h2⟩
section
variable {P:Program} {T:TypeId} {x y:Operand} {a b:Int}
theorem iA (h : -9223372036854775808≤a+b∧a+b≤9223372036854775807) (X:World):Pl.Bn P .add T x y (.int .i64 a) (.int .i64 b) X = .ok (.int .i64 (a+b)) X:=Qm (Pl.zJ h.1 h.2) X
theorem fQ (h : -9223372036854775808≤a-b∧a-b≤9223372036854775807) (X:World):Pl.Bn P .sub T x y (.int .i64 a) (.int .i64 b) X = .ok (.int .i64 (a-b)) X:=af' (Pl.zJ h.1 h.2) X
theorem jD (h : -9223372036854775807≤a∧a≤9223372036854775807) (X:World):(Op.unary .neg (.int .i64 a)).run P X = .ok (.int .i64 (-a)) X:=by have:=Pl.zJ (z := -a) (by omega) (by omega);simp [Op.unary,Op.intArith,this]
theorem bE (h:a<b) (X:World):Pl.Bn P .lss T x y (.int .i64 a) (.int .i64 b) X = .ok (.bool true) X:=abh (decide_eq_true h) X
theorem aP (h:¬ a<b) (X:World):Pl.Bn P .lss T x y (.int .i64 a) (.int .i64 b) X = .ok (.bool false) X:=abh (decide_eq_false h) X
theorem fE (h:a≤b) (X:World):Pl.Bn P .leq T x y (.int .i64 a) (.int .i64 b) X = .ok (.bool true) X:=abj (decide_eq_true h) X
theorem jf (h:¬ a≤b) (X:World):Pl.Bn P .leq T x y (.int .i64 a) (.int .i64 b) X = .ok (.bool false) X:=abj (decide_eq_false h) X
theorem iF (h:a>b) (X:World):Pl.Bn P .gtr T x y (.int .i64 a) (.int .i64 b) X = .ok (.bool true) X:=abk (decide_eq_true h) X
theorem aY (h:¬ a>b) (X:World):Pl.Bn P .gtr T x y (.int .i64 a) (.int .i64 b) X = .ok (.bool false) X:=abk (decide_eq_false h) X
theorem dD (h:a≥b) (X:World):Pl.Bn P .geq T x y (.int .i64 a) (.int .i64 b) X = .ok (.bool true) X:=abl (decide_eq_true h) X
theorem dN (h:¬ a≥b) (X:World):Pl.Bn P .geq T x y (.int .i64 a) (.int .i64 b) X = .ok (.bool false) X:=abl (decide_eq_false h) X
theorem aI (h:a=b) (X:World):Pl.Bn P .eql T x y (.int .i64 a) (.int .i64 b) X = .ok (.bool true) X:=qY (Pl.e_t h) X
theorem aA (h:¬ a=b) (X:World):Pl.Bn P .eql T x y (.int .i64 a) (.int .i64 b) X = .ok (.bool false) X:=qY (Pl.e_f h) X
theorem jN (h:a≠b) (X:World):Pl.Bn P .neq T x y (.int .i64 a) (.int .i64 b) X = .ok (.bool true) X:=abg (by simp [h]) X
theorem bY (h:¬ a≠b) (X:World):Pl.Bn P .neq T x y (.int .i64 a) (.int .i64 b) X = .ok (.bool false) X:=abg (by have:=Classical.not_not.1 h;simp [this]) X
end
theorem Pl.adj {P:Program} {Q:Exit→Act→World→Prop} {n:Nat} {ds:List Deferred} {cs:List Code} {l:List (Nat × Value)} {w:World} {c:Code} (R:List (Nat × Value)→World→Prop) (h1:∀ l' w',R l' w'→Pl.V P Q n ds cs l' w') (h2:(∀ l' w',R l' w'→Pl.V P Q n ds cs l' w')→Pl.V P Q n ds (c::cs) l w):Pl.V P Q n ds (c::cs) l w:=h2 h1
section
variable {n:Nat} {cs:List Code} {l:List (Nat × Value)} {w:World} {fn:Func} {R:Ending→World→Prop}
theorem Pl.kJ {t:Tmp} {N:Nat} {T ty:TypeId} {vs:List Value} {d:TypeDesc} (hr:fn.results=#[.cell t ty]) (hv:Pl.look l t=some (A0a N)) (hC:Pl.Cb w N T vs) (hu:prog.underlying ty=some d) (hd:d.isRow=true) (hi:(prog.info? ty).map (·.size)=some vs.length) (h:R (.returned (.agg vs.toArray)) w):Pl.V prog (bodyPost prog fn R) n [] (.ret::cs) l w:=DD fun a ha=>by
 refine ⟨ha.defers,_,?_,h⟩;unfold results;rw [hr];have e:a.tmps.getD t undef = A0a N:=by rw [Array.getD_eq_getD_getElem?,ha.look t _ hv];rfl
 have hl:=hC.load (o:=0) (part:=vs) (by simp) hu hd hi;simp only [Instr.loadAt,Instr.sureAddr,Sem.run_bind,Sem.run_pure,Result.andThen_ok] at hl;simp only [List.mapM_toArray,List.mapM_cons,List.mapM_nil,e,asAddr,Sem.run_bind,Sem.run_pure,Result.andThen_ok];simp [hl,Sem.run_bind,Result.andThen]
theorem Pl.GL {t t2:Tmp} {N:Nat} {T ty:TypeId} {vs:List Value} {v2:Value} {d:TypeDesc} (hr:fn.results=#[.cell t ty,.tmp t2]) (hv:Pl.look l t=some (A0a N)) (hv2:Pl.look l t2=some v2) (hC:Pl.Cb w N T vs) (hu:prog.underlying ty=some d) (hd:d.isRow=true) (hi:(prog.info? ty).map (·.size)=some vs.length) (h:R (.returned (.tuple #[.agg vs.toArray,v2])) w):Pl.V prog (bodyPost prog fn R) n [] (.ret::cs) l w:=DD fun a ha=>by
 refine ⟨ha.defers,_,?_,h⟩;unfold results;rw [hr];have e:a.tmps.getD t undef = A0a N:=by rw [Array.getD_eq_getD_getElem?,ha.look t _ hv];rfl
 have e2:a.tmps.getD t2 undef=v2:=by rw [Array.getD_eq_getD_getElem?,ha.look t2 v2 hv2];rfl
 have hl:=hC.load (o:=0) (part:=vs) (by simp) hu hd hi;simp only [Instr.loadAt,Instr.sureAddr,Sem.run_bind,Sem.run_pure,Result.andThen_ok] at hl;simp only [List.mapM_toArray,List.mapM_cons,List.mapM_nil,e,e2,asAddr,Sem.run_bind,Sem.run_pure,Result.andThen_ok];simp [hl,Sem.run_bind,Result.andThen]
end
namespace Rf
open Go Go.RowKit Pl
theorem ji {w w':World} {v:Value} {xs:List Nat} (h:U w v xs) (hs:w.heap.size≤w'.heap.size) (hk:∀ k,k<w.heap.size→w'.heap[k]?=w.heap[k]?∨IE w k):U w' v xs:=by
 obtain ⟨A,c,rfl,hl,hx,hr⟩:=h;refine ⟨A,c,rfl,hl,hx,fun h0=>?_⟩;obtain ⟨ad,hA,hb,hcell⟩:=hr h0;refine ⟨ad,hA,Nat.lt_of_lt_of_le hb hs,fun j hj=>?_⟩;rcases hk ad.block hb with e | hn
 · rw [World.cell?_of_block (w:=w) (by rw [aW];exact e)];exact hcell j hj
 · exfalso;have h1:=hcell 0 h0;unfold World.cell? at h1;rw [aW] at h1;cases hq:w.heap[ad.block]? with
   | none=>rw [hq] at h1;simp at h1
   | some ob =>
    rw [hq] at h1;cases ob with
    | cells cs T m =>simp at h1;exact hn cs T m hq _ (Array.mem_toList_iff.2 (Array.mem_of_getElem? h1.2)) _ rfl
    | _=>simp at h1
def bW (n:Nat):RS:=⟨fun w f=>Un w (f 0) n,fun h hs hk=>ji h hs hk⟩
def P7 (z:Int):RS:=⟨fun w f=>Zn w (.agg #[f 0,f 1]) z,fun ⟨A,c,e,u⟩ hs hk=>⟨A,c,e,ji u hs hk⟩⟩
def fG (q:Rat) (L M:Nat):RS:=⟨fun w f=>Qn w (.agg #[f 0,f 1,f 2]) q L M,fun ⟨A,c,B,b,e,u,t,z,y⟩ hs hk=>⟨A,c,B,b,e,ji u hs hk,ji t hs hk,z,y⟩⟩
def TR:RS:=⟨fun _ _=>True,fun h _ _=>h⟩
def tK (l:List Value):Nat→Value:=fun k=>(uK l k).getD (.bool false)
theorem fA {l:List Value} (h:l.all bU=true) (k:Nat):bU (tK l k)=true:=by
 unfold tK;cases hn:uK l k with
 | none=>rfl
 | some x =>rw [sQ] at hn;rw [List.all_eq_true] at h;exact h x (List.mem_of_getElem? hn)
section
variable {P:Program} {f:FuncId} {args:Array Value} {w:World} {α:Env} {γ:l7}
theorem dH {q:Rat} {L M:Nat} (g:Nat) (h:Calls P f args w (fun e w'=>∃ u,e = .returned u∧Qn w' u q L M∧aS w w')) :Calls P f args w (fun e w'=>∃ F,(∀ k,bU (F k)=true)∧e = .returned (den α (upd γ g F) (.a [.c g 0,.c g 1,.c g 2]))∧(fG q L M).R w' F∧aS w w'):=Calls.mono h fun e w' ⟨u,he,⟨A,c,B,b,hu,hU,hT,hz,hy⟩,hE⟩=>by subst hu he;refine ⟨tK [.bool (decide (q.num<0)),.slice A (limbs q.num.natAbs).length c,.slice B (limbs q.den).length b],fA rfl,?_,⟨A,c,B,b,rfl,hU,hT,hz,hy⟩,hE⟩;simp only [den,dU,upd_same];rfl
theorem bG {z:Int} (g:Nat) (h:Calls P f args w (fun e w'=>∃ u,e = .returned u∧Zn w' u z∧aS w w')) :Calls P f args w (fun e w'=>∃ F,(∀ k,bU (F k)=true)∧e = .returned (den α (upd γ g F) (.a [.c g 0,.c g 1]))∧(P7 z).R w' F∧aS w w'):=Calls.mono h fun e w' ⟨u,he,⟨A,c,hu,hU⟩,hE⟩=>by subst hu he;refine ⟨tK [.bool (decide (z<0)),.slice A (limbs z.natAbs).length c],fA rfl,?_,⟨A,c,rfl,hU⟩,hE⟩;simp only [den,dU,upd_same];rfl
theorem dh {m:Nat} (g:Nat) (h:Calls P f args w (fun e w'=>∃ u,e = .returned u∧Un w' u m∧aS w w')) :Calls P f args w (fun e w'=>∃ F,(∀ k,bU (F k)=true)∧e = .returned (den α (upd γ g F) (.c g 0))∧(bW m).R w' F∧aS w w'):=Calls.mono h fun e w' ⟨u,he,hU,hE⟩=>by obtain ⟨A,c,hu⟩:=Un.jr hU;subst hu he;refine ⟨tK [.slice A (limbs m).length c],fA rfl,?_,hU,hE⟩;simp only [den,dU,upd_same];rfl
theorem aH {v:Value} (g:Nat) (h:Calls P f args w (fun e w'=>e = .returned v∧aS w w')) :Calls P f args w (fun e w'=>∃ F,(∀ k,bU (F k)=true)∧e = .returned (den α (upd γ g F) (.v v))∧TR.R w' F∧aS w w'):=Calls.mono h fun e w' ⟨he,hE⟩=>⟨fun _=>.bool false,fun _=>rfl,he,trivial,hE⟩
end
section
variable {P:Program} {Q:Exit→Act→World→Prop} {n:Nat} {ds:List Deferred} {w0:World} {cs:List Code} {l:Fr} {B:Bx} {Γ:Gm} {L:List Oper}
theorem ajt {r:qE} {i m d:Nat} {o:Oper} {f:FuncId} {xs:List Operand} {ats:Array TypeId} {ss:List SV} (g:Nat) (S:RS) (res:SV) (ho:nth L i=some o) (hop:o.op = .call { callee:=.value (.func f),args:=xs.toArray,argTypes:=ats }) (hd:o.dst=some d) (hg:lJ L l o.guard=some true) (hx:evs l xs=some ss) (hfr:fresh g l B Γ=true) (hf:∀ (u:Array Value) X,(callFunc f u).run P X = .ok (.enter f u) X) (DY:∀ α γ w,Holds w0 B Γ α γ w→Calls P f (dU α γ ss).toArray w (fun e w'=>∃ F,(∀ k,bU (F k)=true)∧e = .returned (den α (upd γ g F) res)∧S.R w' F∧aS w w')) (h:HA P Q n ds w0 cs L r ((d,res)::l) B ((g,S.S)::Γ)):HA P Q n ds w0 cs L ((false,i,m)::r) l B Γ :=
 aal (X:=Unit) g (fun _=>S) (fun _=>res) (fun _=>True) ho hop hd hg hx hfr hf (fun α γ w hH=>Calls.mono (DY α γ w hH) fun e w' ⟨F,h1,h2,h3,h4⟩=>⟨(),F,h1,h2,h3,trivial,h4⟩) fun _ _=>h
theorem oF {ord:Option (List Nat)} {l0:Fr} {B0:Bx} {Γ0:Gm} {tr:Tr} {d:Nat} {o:Oper} {x y:Operand} {rd:List Nat} {lr:Fr} {t e:TypeId} {k b q j s:Nat} {z:Int} {kd:IntKind} (hu:P.underlying t=some (.array k e)) (hs:(P.info? e).map (·.size)=some s) (hz:z=(j:Int)) (hj:j<k) (ho:nth L (oi ord tr.length)=some o) (hop:o.op = .indexAddr t x y) (hd:o.dst=some d) (hrd:Di L o.guard++(sD x++sD y)=rd) (hlr:kX (vS l0 tr) rd=lr) (hg:lJ L lr o.guard=some true) (hx:ev lr x=some (.p b q)) (hy:ev lr y=some (.v (.int kd z))) {q':Nat} (hq:q+j*s=q') (h:DA P Q n ds w0 cs L ord l0 B0 Γ0 (⟨some d,.p b q',rd,[],[],none,none,none⟩::tr)):DA P Q n ds w0 cs L ord l0 B0 Γ0 tr:=by
 subst hq;refine EJ (.p b (q+j*s)) (sD x++sD y) [] ho hd hrd hlr hg rfl (fun α γ w hH ρ hρ=>?_) h;subst hz;unfold execOp;rw [hop];refine fI _ w ?_;rw [hρ.fO (dJ hx),hρ.fO (dJ hy)];have h0:(0:Int)≤(j:Int)∧(j:Int)<(k:Int):=by omega
 obtain ⟨inf,hi,hz⟩:=Option.map_eq_some_iff.1 hs;subst hz;simp [den,Instr.indexAt,run_underlying hu,asIntOf,h0,hj,sizeOf,typeInfo,hi,Result.andThen,Instr.sureAddr,Addr.add_mid]
end
end Rf
section
open Go Go.RowKit
abbrev A0h (f:FuncId) (a:Array Value) (w:World) (a0:Rat) (a1:Nat) (a2:Nat):=Calls Tryz.prog f a w fun e w'=>∃ u,e = .returned u∧Qn w' u a0 a1 a2∧Pl.aS w w'
