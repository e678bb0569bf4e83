/- Base. -/
import Derived.Test.YtgcieamfidoaoaaGreatDoorGaa
import Derived.Laws.AppendOwn
import Derived.Below
import Derived.Deep.MidRow
import Derived.Deep.WholeRow
import Derived.Laws.CopyOwn
import Derived.WalkKit
set_option linter.all false
set_option maxHeartbeats 8000000
set_option maxRecDepth 100000
namespace Go.Proofs.YtgcieamfidoaoaaGreatDoor
namespace Pl
open Go
def Ks (P:Program) (Q:Exit→Act→World→Prop):List Code→Exit→Act→World→Prop
 | []=>Q
 | c::cs=>Exit.then (c.wp P (Ks P Q cs)) (Ks P Q cs)
def V (P:Program) (Q:Exit→Act→World→Prop) (n:Nat) (ds:List Deferred) (cs:List Code) (l:List (Nat × Value)) (w:World):Prop :=
 ∀ a,Ag n ds a l→Ks P Q cs .normal a w
section
variable {P:Program} {Q:Exit→Act→World→Prop} {n:Nat} {ds:List Deferred} {cs:List Code} {l:List (Nat × Value)} {w:World} {x y:Code}
theorem eD:∀ {cs:List Code} {a:Act} {w:World},Q .ret a w→Ks P Q cs .ret a w
 | [],_,_,h=>h
 | _::cs,_,_,h=>eD (cs:=cs) h
theorem xJ:∀ {cs:List Code} {c:_} {a:Act} {w:World},Ks P Q cs (.panic c) a w↔Q (.panic c) a w
 | [],_,_,_=>Iff.rfl
 | _::cs,_,_,_=>xJ (cs:=cs)
theorem bu (h:V P Q n ds (x::y::cs) l w):V P Q n ds (.seq x y::cs) l w:=fun a ha=>wp_seq (h a ha)
theorem jP (h:V P Q n ds cs l w):V P Q n ds (.skip::cs) l w:=fun a ha=>wp_skip (h a ha)
theorem lI {c:Operand} (hc:fO l c=some (.bool true)) (h:V P Q n ds (x::cs) l w):V P Q n ds (.cond c x y::cs) l w:=fun a ha=>wp_cond_true (ha.cons.fO hc) (h a ha)
theorem iR {c:Operand} (hc:fO l c=some (.bool false)) (h:V P Q n ds (y::cs) l w):V P Q n ds (.cond c x y::cs) l w:=fun a ha=>wp_cond_false (ha.cons.fO hc) (h a ha)
theorem DD (h:∀ a,Ag n ds a l→Q .ret a w):V P Q n ds (.ret::cs) l w:=fun a ha=>wp_ret (eD (h a ha))
theorem Cn {l':List (Nat × Value)} (hl:∀ t v,look l' t=some v→look l t=some v) (h:V P Q n ds cs l' w):V P Q n ds cs l w:=fun a ha=>h a (ha.less hl)
def OT (l:List (Nat × Value)):List (Nat × Value)→Prop
 | []=>True
 | (d,v)::l'=>look l d=some v∧OT l l'
theorem CK {l:List (Nat × Value)}:∀ {l':List (Nat × Value)},OT l l'→∀ t v,look l' t=some v→look l t=some v
 | [],_,t,v,h=>by cases h
 | (d,u)::l',hs,t,v,h=>by
  unfold look at h;cases hb:Nat.beq d t with
  | true =>rw [hb] at h;obtain rfl:d=t:=Nat.eq_of_beq_eq_true hb;cases h;exact hs.1
  | false =>rw [hb] at h;exact CK hs.2 t v h
theorem nE (l':List (Nat × Value)) (hl:OT l l') (h:V P Q n ds cs l' w):V P Q n ds cs l w:=Cn (CK hl) h
theorem fK:OT l []:=trivial
theorem aB {d:Nat} {v:Value} {l':List (Nat × Value)} (h:look l d=some v) (hs:OT l l'):OT l ((d,v)::l'):=⟨h,hs⟩
theorem MR {L:List Oper} {S:World→Prop} {f M:Nat}:OQ P L S Q n ds f M l w []:=trivial
theorem yA {L:List Oper} {S:World→Prop} {f M i:Nat} {rs:List Nat} (h:iP P L S (G P L S Q n ds f (Nat.lor M (Nat.shiftLeft 1 i))) ((false,i,M)::[]) l w) (hs:OQ P L S Q n ds f M l w rs):OQ P L S Q n ds f M l w (i::rs):=⟨h,hs⟩
theorem Gf {c:Code} (R:List (Nat × Value)→World→Prop) (h1:∀ l' w',R l' w'→V P Q n ds cs l' w') (h2:(∀ l' w',R l' w'→V P Q n ds cs l' w')→V P Q n ds (c::cs) l w):V P Q n ds (c::cs) l w:=h2 h1
theorem qa {L:List Oper} {S:World→Prop} {K K':List (Nat × Value)→World→Prop} (hK:∀ l w,K l w→K' l w) :
  ∀ (r:List (Bool × Nat × Nat)) (l:List (Nat × Value)) (w:World),iP P L S K r l w→iP P L S K' r l w
 | [],l,w,h=>hK l w h
 | (k,i,m)::r,l,w,h=>by
  obtain ⟨o,ho,h⟩:=h;refine ⟨o,ho,?_⟩;rcases h with ⟨d,v,h1,hdd,hg,hy,h⟩ | ⟨d,hdd,hg,h⟩ | ⟨d,f,vs,h1,hdd,hg,hx,h⟩ | ⟨d,v,w',h1,hdd,hg,hx,hS,h⟩ | ⟨w',h1,hdd,hg,hx,hS,h⟩
  · exact .inl ⟨d,v,h1,hdd,hg,hy,qa hK r _ w h⟩
  · exact .inr (.inl ⟨d,hdd,hg,qa hK r _ w h⟩)
  · exact .inr (.inr (.inl ⟨d,f,vs,h1,hdd,hg,hx,Calls.mono h fun e w' ⟨v,he,hS,hh⟩=>⟨v,he,hS,qa hK r _ w' hh⟩⟩))
  · exact .inr (.inr (.inr (.inl ⟨d,v,w',h1,hdd,hg,hx,hS,qa hK r _ w' h⟩)))
  · exact .inr (.inr (.inr (.inr ⟨w',h1,hdd,hg,hx,hS,qa hK r _ w' h⟩)))
theorem G_V {L:List Oper} {S:World→Prop} {f M:Nat} (hM:Nat.beq M (Nat.sub (2^L.toArray.size) 1)=true) (h:V P Q n ds cs l w):G P L S (Ks P Q cs) n ds f M l w:=agb hM fun _=>h
theorem Ki {id:Nat} {L:List Oper} {S:World→Prop} (hm:P.follows .mixedOrders=true) (hS:S w.drew) (h:S w.drew→G P L S (Ks P Q cs) n ds L.toArray.size 0 l w.drew):V P Q n ds (.region id L.toArray true::cs) l w :=
 fun a ha=>wp_region_held hm (h hS a _ ha (WE.new _) hS)
def WK (n:Nat) (L:List Oper) (r:List (Bool × Nat × Nat)):Bool :=
 Region.noSelect L.toArray&&(Gp (tabs L.toArray) (Nat.sub (2^L.toArray.size) 1) r 0&&(Nat.beq r.length L.toArray.size&&uD n L))
theorem qc {id:Nat} {L:List Oper} {S:World→Prop} (r:List (Bool × Nat × Nat)) (hm:P.follows .mixedOrders=true) (hQ:∀ c (d:Option Tmp) v a w,Q (.panic c) (a.put d v) w→Q (.panic c) a w) (hk:WK n L r=true) (hS:S w.drew) (h:S w.drew→iP P L S (V P Q n ds cs) r l w.drew):V P Q n ds (.region id L.toArray true::cs) l w:=by rw [WK,Bool.and_eq_true,Bool.and_eq_true,Bool.and_eq_true] at hk;refine Ki hm hS fun hS=>?_;have:=WJ (f:=0) hk.1 (fun c d v a w hq=>xJ.2 (hQ c d v a w (xJ.1 hq))) (mU hk.2.2.2) r 0 l w.drew hk.2.1 (qa (fun l w hx=>G_V (P:=P) (Q:=Q) (cs:=cs) (by rw [beq_iff]) hx) r l w.drew (h hS));rw [Nat.add_zero,(beq_iff _ _).1 hk.2.2.1] at this;exact this
theorem ed {id:Nat} {L:List Oper} (hk:uD n L=true) (h:iP P L (fun _=>True) (V P Q n ds cs) (SC 0 L) l w):V P Q n ds (.region id L.toArray false::cs) l w:=fun a ha =>
 wp_region_list (BC (S:=fun _=>True) (Q:=Ks P Q cs) (mU hk) L [] l w a rfl ha trivial h)
def Gr (n:Nat) (L:List Oper):Bool:=Region.noSelect L.toArray&&uD n L
theorem Kj {L:List Oper} {S:World→Prop} {M:Nat} (r:List (Bool × Nat × Nat)) (e f:Nat) {g:Nat} (hQ:∀ c (d:Option Tmp) v a w,Q (.panic c) (a.put d v) w→Q (.panic c) a w) (hk:Gr n L=true) (hg:Nat.beq (Nat.add r.length f) g=true) (hp:Gp (tabs L.toArray) e r M=true) (h:iP P L S (G P L S (Ks P Q cs) n ds f e) r l w):G P L S (Ks P Q cs) n ds g M l w:=by rw [Gr,Bool.and_eq_true] at hk;have:=WJ (f:=f) hk.1 (fun c d v a w hq=>xJ.2 (hQ c d v a w (xJ.1 hq))) (mU hk.2) r M l w hp h;rwa [show r.length+f=g from (beq_iff _ _).1 hg] at this
theorem abm {L:List Oper} {S:World→Prop} {M:Nat} (rs:List Nat) (f:Nat) {g:Nat} (hk:Gr n L=true) (hg:Nat.beq (Nat.succ f) g=true) (hr:WI (tabs L.toArray) M rs=true) (h:OQ P L S (Ks P Q cs) n ds f M l w rs):G P L S (Ks P Q cs) n ds g M l w:=by rw [Gr,Bool.and_eq_true] at hk;have:=aga (mU hk.2) rs hr h;rwa [show f+1=g from (beq_iff _ _).1 hg] at this
theorem lK {id:Nat} {b:Code} (h:V P (Exit.inBlock id (Ks P Q cs)) n ds [b] l w):V P Q n ds (.block id b::cs) l w:=fun a ha=>wp_block (h a ha)
theorem jQ {id:Nat} (h:V P Q n ds cs l w):V P (Exit.inBlock id (Ks P Q cs)) n ds [] l w:=fun a ha=>h a ha
theorem xG {id:Nat} {cs':List Code} {N:Act→World→Prop} (h:V P Q n ds cs l w):V P (Exit.then N (Ks P (Exit.inBlock id (Ks P Q cs)) [])) n ds (.exit id::cs') l w:=fun a ha=>wp_exit (by
 have e:∀ (Q':Exit→Act→World→Prop) (cs':List Code),Q' (.exit id) a w→Ks P Q' cs' (.exit id) a w:=fun Q' cs'=>by
  induction cs' with
  | nil=>exact fun h=>h
  | cons c cs' ih=>exact fun h=>ih h
 refine e _ _ ?_;show (if id=id then Ks P Q cs .normal a w else _);rw [if_pos rfl];exact h a ha)
theorem least {p:Nat→Prop} (h:∃ k,p k):∃ k,p k∧∀ j,p j→k≤j:=by
 obtain ⟨k,hk⟩:=h;induction k using Nat.strongRecOn with
 | _ k ih =>
  by_cases hj:∃ j,j<k∧p j
  · obtain ⟨j,h1,h2⟩:=hj;exact ih j h1 h2
  · exact ⟨k,hk,fun j hj'=>Nat.le_of_not_lt fun hlt=>hj ⟨j,hlt,hj'⟩⟩
open Classical in
theorem xE {c:Code} (I:Nat→List (Nat × Value)→World→Prop) (k:Nat) (h0:I k l w) (hs:∀ k l w,I k l w→V P (Exit.then (fun a' w'=>∃ k' l',k'<k∧Ag n ds a' l'∧I k' l' w') (Ks P Q cs)) n ds [c] l w):V P Q n ds (.loop c::cs) l w:=fun a ha=>by
 have key:∀ (a:Act) (w:World),(∃ k,∃ l,Ag n ds a l∧I k l w)→∃ k,(∃ l,Ag n ds a l∧I k l w)∧∀ j,(∃ l,Ag n ds a l∧I j l w)→k≤j:=fun a w h=>least h;refine wp_loop (fun a w=>∃ k,∃ l,Ag n ds a l∧I k l w) (fun a w=>if h:∃ k,∃ l,Ag n ds a l∧I k l w then (key a w h).choose else 0) ⟨k,l,ha,h0⟩ fun a w h=>?_;obtain ⟨⟨l,ha,hI⟩,hmin⟩:=(key a w h).choose_spec;refine Code.wp_mono ?_ (hs _ l w hI a ha);intro e a' w' hq;cases e with
 | normal =>obtain ⟨k',l',hlt,ha',hI'⟩:=hq;have h':∃ k,∃ l,Ag n ds a' l∧I k l w':=⟨k',l',ha',hI'⟩;refine ⟨h',?_⟩;show (if h:∃ k,∃ l,Ag n ds a' l∧I k l w' then (key a' w' h).choose else 0)<(if h:∃ k,∃ l,Ag n ds a l∧I k l w then (key a w h).choose else 0);rw [dif_pos h',dif_pos h];exact Nat.lt_of_le_of_lt ((key a' w' h').choose_spec.2 k' ⟨l',ha',hI'⟩) hlt
 | _=>exact hq
theorem pq {I:Nat→List (Nat × Value)→World→Prop} {Q':Exit→Act→World→Prop} {k k':Nat} (l':List (Nat × Value)) (hs:OT l l') (hk:k'<k) (hI:I k' l' w) :V P (Exit.then (fun a' w'=>∃ k' l',k'<k∧Ag n ds a' l'∧I k' l' w') Q') n ds [] l w:=fun a ha=>⟨k',l',hk,ha.less (CK hs),hI⟩
def SE:Nat→List Value→List (Nat × Value)
 | _,[]=>[]
 | i,v::vs=>(i,v)::SE (i+1) vs
theorem CL {t:Nat} {v:Value}:∀ {vs:List Value} {i:Nat},look (SE i vs) t=some v→i≤t∧vs[t-i]?=some v
 | [],i,h=>by cases h
 | u::vs,i,h=>by
  unfold SE look at h;cases hb:Nat.beq i t with
  | true =>rw [hb] at h;obtain rfl:i=t:=Nat.eq_of_beq_eq_true hb;rw [Nat.sub_self];exact ⟨Nat.le_refl _,h⟩
  | false =>rw [hb] at h;obtain ⟨h1,h2⟩:=CL h;refine ⟨by omega,?_⟩;rw [show t-i=(t-(i+1))+1 from by omega];exact h2
theorem d9 {f:FuncId} {fn:Func} {c:Code} {vs:List Value} {R:Ending→World→Prop} (hf:P.funcs[f]?=some fn) (hb:fn.body=some c) (hn:Nat.beq fn.ntmps n=true) (hle:Nat.ble vs.length n=true) (h:V P (bodyPost P fn R) n [] [c] (SE 0 vs) w):Calls P f vs.toArray w R:=by
 have hn':vs.length≤n:=Nat.le_of_ble_eq_true hle;have hn2:fn.ntmps=n:=(beq_iff _ _).1 hn;refine calls_of_wp hf hb (h _ ⟨?_,rfl,fun t v ht=>?_⟩)
 · rw [hn2];simp;omega
 · obtain ⟨_,hj⟩:=CL ht;rw [Nat.sub_zero] at hj;have hlt:t<vs.length:=(List.getElem?_eq_some_iff.1 hj).1;show (vs.toArray++Array.replicate (fn.ntmps-vs.toArray.size) undef)[t]?=some v;rw [Array.getElem?_append_left (by simpa using hlt)];simpa using hj
theorem jR {fn:Func} {R:Ending→World→Prop} {t:Tmp} {v:Value} (hr:fn.results=#[.tmp t]) (hv:look l t=some v) (h:R (.returned v) w) :V P (bodyPost P fn R) n [] (.ret::cs) l w:=DD fun a ha=>by
 refine ⟨ha.defers,v,?_,h⟩;unfold results;rw [hr];have:a.tmps.getD t undef=v:=by rw [Array.getD_eq_getD_getElem?,ha.look t v hv];rfl
 simp only [List.mapM_toArray,List.mapM_cons,List.mapM_nil,this];rfl
theorem uE {fn:Func} {R:Ending→World→Prop} {t t2:Tmp} {v v2:Value} (hr:fn.results=#[.tmp t,.tmp t2]) (hv:look l t=some v) (hv2:look l t2=some v2) (h:R (.returned (.tuple #[v,v2])) w) :V P (bodyPost P fn R) n [] (.ret::cs) l w:=DD fun a ha=>by
 refine ⟨ha.defers,.tuple #[v,v2],?_,h⟩;unfold results;rw [hr];have e1:a.tmps.getD t undef=v:=by rw [Array.getD_eq_getD_getElem?,ha.look t v hv];rfl
 have e2:a.tmps.getD t2 undef=v2:=by rw [Array.getD_eq_getD_getElem?,ha.look t2 v2 hv2];rfl
 simp only [List.mapM_toArray,List.mapM_cons,List.mapM_nil,e1,e2];rfl
theorem gY {fn:Func} {R:Ending→World→Prop} (c:_) (d:Option Tmp) (v:Value) (a:Act) (w:World) (h:bodyPost P fn R (.panic c) (a.put d v) w):bodyPost P fn R (.panic c) a w:=by cases d<;>exact h
end
section
variable {P:Program} {L:List Oper} {S:World→Prop} {K:List (Nat × Value)→World→Prop} {k:Bool} {i m d:Nat} {o:Oper} {r:List (Bool × Nat × Nat)} {l:List (Nat × Value)} {w w':World} {v:Value}
theorem Kb (ho:nth L i=some o) (hd:o.dst=some d) (hg:gd L l o.guard=some false) (h:iP P L S K r ((d,undef)::l) w):iP P L S K ((k,i,m)::r) l w:=⟨o,ho,.inr (.inl ⟨d,hd,hg,h⟩)⟩
theorem fI (s:Sem Value) (X:World) (h:s.run P X = .ok v X):(do pure (Next.value (← s)):Sem Next).run P X = .ok (.value v) X:=by show (s >>= fun u=>pure (Next.value u)).run P X=_;rw [Sem.run_bind,h];rfl
theorem uA (s:Sem Value) {X X':World} (h:s.run P X = .ok v X'):(do pure (Next.value (← s)):Sem Next).run P X = .ok (.value v) X':=by show (s >>= fun u=>pure (Next.value u)).run P X=_;rw [Sem.run_bind,h];rfl
theorem dQ {f:FuncId} {xs:List Operand} {ats:Array TypeId} {vs:List Value} (ho:nth L i=some o) (hop:o.op = .call { callee:=.value (.func f),args:=xs.toArray,argTypes:=ats }) (hd:o.dst=some d) (hg:gd L l o.guard=some true) (hx:wo l xs=some vs) (hf:∀ (u:Array Value) X,(callFunc f u).run P X = .ok (.enter f u) X) (hc:Calls P f vs.toArray w (fun e w'=>∃ v,e = .returned v∧S w'∧iP P L S K r ((d,v)::l) w')):iP P L S K ((false,i,m)::r) l w :=
 ⟨o,ho,.inr (.inr (.inl ⟨d,f,vs.toArray,rfl,hd,hg,fun ρ hρ=>by
  unfold execOp;rw [hop];show (resolve ρ _ _ >>= fun d=>invoke d.target d.args).run P w=_;unfold resolve;show (Deferred.ofValue (ρ (.func f)) (xs.toArray.map ρ) >>= fun d=>invoke d.target d.args).run P w=_;rw [hρ.func];show (callFunc f ((#[]++xs.toArray.map ρ)++#[])).run P w=_;have e:(#[]++xs.toArray.map ρ)++#[]=vs.toArray:=by rw [← hρ.wo hx];simp
  rw [e];exact hf _ w,hc⟩))⟩
theorem enters {f:FuncId} {fn:Func} {c:Code} (hf:P.funcs[f]?=some fn) (hname:(fn.name == "runtime.NumGoroutine")=false) (hb:fn.body=some c) (u:Array Value) (X:World):(callFunc f u).run P X = .ok (.enter f u) X:=by simp [callFunc,go_sem,hf,show ¬ fn.name = "runtime.NumGoroutine" from by simpa using hname,hb]
theorem l8 (ho:nth L i=some o) (hd:o.dst=some d) (hg:gd L l o.guard=some true) (hx:∀ ρ,Cons ρ l→(execOp ρ o).run P w = .ok (.value v) w') (hS:S w') (h:iP P L S K r ((d,v)::l) w'):iP P L S K ((false,i,m)::r) l w:=⟨o,ho,.inr (.inr (.inr (.inl ⟨d,v,w',rfl,hd,hg,hx,hS,h⟩)))⟩
theorem WL (ho:nth L i=some o) (hd:o.dst=none) (hg:gd L l o.guard=some true) (hx:∀ ρ,Cons ρ l→(execOp ρ o).run P w = .ok .skip w') (hS:S w') (h:iP P L S K r l w'):iP P L S K ((false,i,m)::r) l w:=⟨o,ho,.inr (.inr (.inr (.inr ⟨w',rfl,hd,hg,hx,hS,h⟩)))⟩
theorem ZP (ho:nth L i=some o) (hd:o.dst=some d) (hg:gd L l o.guard=some true) (hy:∀ ρ,Cons ρ l→∀ X,S X→(execOp ρ o).run P X = .ok (.value v) X) (h:iP P L S K r ((d,v)::l) w):iP P L S K ((true,i,m)::r) l w:=⟨o,ho,.inl ⟨d,v,rfl,hd,hg,hy,h⟩⟩
theorem jS (hS:S w) (ho:nth L i=some o) (hd:o.dst=some d) (hg:gd L l o.guard=some true) (hy:∀ ρ,Cons ρ l→∀ X,S X→(execOp ρ o).run P X = .ok (.value v) X) (h:iP P L S K r ((d,v)::l) w):iP P L S K ((k,i,m)::r) l w:=by
 cases k with
 | true=>exact ZP ho hd hg hy h
 | false=>exact l8 ho hd hg (fun ρ hρ=>hy ρ hρ w hS) hS h
theorem jo {x:Operand} {ty:TypeId} {p:Value} (hS:S w) (ho:nth L i=some o) (hop:o.op = .load ty x) (hd:o.dst=some d) (hg:gd L l o.guard=some true) (hx:fO l x=some p) (hr:∀ X,S X→(Instr.loadAt ty p).run P X = .ok v X) (h:iP P L S K r ((d,v)::l) w):iP P L S K ((k,i,m)::r) l w :=
 jS hS ho hd hg (fun ρ hρ X hX=>by unfold execOp;rw [hop];exact fI _ X (by rw [hρ.fO hx];exact hr X hX)) h
theorem bH {x:Operand} {ty:TypeId} {p:Value} (hS:S w) (ho:nth L i=some o) (hop:o.op = .load ty x) (hd:o.dst=some d) (hg:gd L l o.guard=some true) (hx:fO l x=some p) (hr:(Instr.loadAt ty p).run P w = .ok v w) (h:iP P L S K r ((d,v)::l) w):iP P L S K ((false,i,m)::r) l w :=
 l8 ho hd hg (fun ρ hρ=>by unfold execOp;rw [hop];exact fI _ w (by rw [hρ.fO hx];exact hr)) hS h
theorem aT (h:K l w):iP P L S K [] l w:=h
theorem Gn {ty:TypeId} (ho:nth L i=some o) (hop:o.op = .alloc ty) (hd:o.dst=some d) (hg:gd L l o.guard=some true) (hr:(Instr.alloc ty true (.tuple #[])).run P w = .ok v w') (hS:S w') (h:iP P L S K r ((d,v)::l) w'):iP P L S K ((false,i,m)::r) l w :=
 l8 ho hd hg (fun ρ hρ=>by
  unfold execOp;rw [hop];show (Instr.alloc ty true (.tuple #[]) >>= fun u=>pure (Next.value u)).run P w=_;rw [Sem.run_bind,hr];rfl) hS h
theorem gz {x y:Operand} {ty:TypeId} {p u:Value} (ho:nth L i=some o) (hop:o.op = .store ty x y) (hd:o.dst=none) (hg:gd L l o.guard=some true) (hx:fO l x=some p) (hy:fO l y=some u) (hr:(Instr.storeAt ty p u).run P w = .ok () w') (hS:S w') (h:iP P L S K r l w'):iP P L S K ((false,i,m)::r) l w :=
 WL ho hd hg (fun ρ hρ=>by
  unfold execOp;rw [hop];show (Instr.storeAt ty (ρ x) (ρ y) >>= fun _=>pure Next.skip).run P w=_;rw [hρ.fO hx,hρ.fO hy,Sem.run_bind,hr];rfl) hS h
theorem Mw {x:Operand} {op:UnOp} {ty:TypeId} {u:Value} (hS:S w) (ho:nth L i=some o) (hop:o.op = .unOp op ty x) (hd:o.dst=some d) (hg:gd L l o.guard=some true) (hx:fO l x=some u) (hr:∀ X,(Op.unary op u).run P X = .ok v X) (h:iP P L S K r ((d,v)::l) w):iP P L S K ((k,i,m)::r) l w :=
 jS hS ho hd hg (fun ρ hρ X _=>by unfold execOp;rw [hop];exact fI _ X (by rw [hρ.fO hx];exact hr X)) h
theorem bK {x y:Operand} {op:BinOp} {tx ty:TypeId} {u u':Value} (hS:S w) (ho:nth L i=some o) (hop:o.op = .binOp op tx x y ty) (hd:o.dst=some d) (hg:gd L l o.guard=some true) (hx:fO l x=some u) (hy:fO l y=some u') (hr:∀ X,(do eqGuard op tx x y u u';binOp op tx u u':Sem Value).run P X = .ok v X) (h:iP P L S K r ((d,v)::l) w):iP P L S K ((k,i,m)::r) l w :=
 jS hS ho hd hg (fun ρ hρ X _=>by unfold execOp;rw [hop];exact fI _ X (by rw [hρ.fO hx,hρ.fO hy];exact hr X)) h
end
section
variable {P:Program} {Q:Exit→Act→World→Prop}
theorem Gt {id:Nat} (hQ:∀ c (d:Option Tmp) v a w,Q (.panic c) (a.put d v) w→Q (.panic c) a w):∀ c (d:Option Tmp) v a w,Exit.inBlock id Q (.panic c) (a.put d v) w→Exit.inBlock id Q (.panic c) a w:=fun c d v a w h=>hQ c d v a w h
theorem Kk {R:Act→World→Prop} (hQ:∀ c (d:Option Tmp) v a w,Q (.panic c) (a.put d v) w→Q (.panic c) a w):∀ c (d:Option Tmp) v a w,Exit.then R Q (.panic c) (a.put d v) w→Exit.then R Q (.panic c) a w:=fun c d v a w h=>hQ c d v a w h
end
section
variable {P:Program} {L:List Oper} {S:World→Prop} {K:List (Nat × Value)→World→Prop} {k:Bool} {i m d:Nat} {o:Oper} {r:List (Bool × Nat × Nat)} {l:List (Nat × Value)} {w w':World} {v:Value}
theorem iT {f:FuncId} {t:Operand} {xs:List Operand} {ats:Array TypeId} {fs vs cap:List Value} (ho:nth L i=some o) (hop:o.op = .call { callee:=.value t,args:=xs.toArray,argTypes:=ats }) (hd:o.dst=some d) (hg:gd L l o.guard=some true) (ht:fO l t=some (.func (.func f) fs.toArray cap.toArray)) (hx:wo l xs=some vs) (hf:∀ (u:Array Value) X,(callFunc f u).run P X = .ok (.enter f u) X) (hc:Calls P f (fs++(vs++cap)).toArray w (fun e w'=>∃ v,e = .returned v∧S w'∧iP P L S K r ((d,v)::l) w')):iP P L S K ((false,i,m)::r) l w :=
 ⟨o,ho,.inr (.inr (.inl ⟨d,f,(fs++(vs++cap)).toArray,rfl,hd,hg,fun ρ hρ=>by
  unfold execOp;rw [hop];show (resolve ρ _ _ >>= fun d=>invoke d.target d.args).run P w=_;unfold resolve;show (Deferred.ofValue (ρ t) (xs.toArray.map ρ) >>= fun d=>invoke d.target d.args).run P w=_;rw [hρ.fO ht];show (callFunc f ((fs.toArray++xs.toArray.map ρ)++cap.toArray)).run P w=_;have e:(fs.toArray++xs.toArray.map ρ)++cap.toArray=(fs++(vs++cap)).toArray:=by rw [← hρ.wo hx];simp
  rw [e];exact hf _ w,hc⟩))⟩
theorem qF {f:FuncId} {fst cap:List Operand} {fs vs:List Value} (hS:S w) (ho:nth L i=some o) (hop:o.op = .makeFunc (.func f) fst.toArray cap.toArray) (hd:o.dst=some d) (hg:gd L l o.guard=some true) (hf:wo l fst=some fs) (hx:wo l cap=some vs) (h:iP P L S K r ((d,.func (.func f) fs.toArray vs.toArray)::l) w):iP P L S K ((k,i,m)::r) l w :=
 jS hS ho hd hg (fun ρ hρ X _=>by
  unfold execOp;rw [hop];refine fI _ X ?_;have e:cap.toArray.map ρ=vs.toArray:=by rw [← hρ.wo hx];simp
  have e1:fst.toArray.map ρ=fs.toArray:=by rw [← hρ.wo hf];simp
  show (Instr.makeFunc (.func f) (fst.toArray.map ρ) (cap.toArray.map ρ)).run P X=_;rw [e,e1];simp [Instr.makeFunc]) h
end
theorem uB {P:Program} {n:Nat} {l:List (Nat × Value)} {w:World} {fn:Func} {R:Ending→World→Prop} (hr:fn.results=#[]) (h:R (.returned (.tuple #[])) w):V P (bodyPost P fn R) n [] [] l w:=fun a ha=>by refine ⟨ha.defers,.tuple #[],?_,h⟩;unfold results;rw [hr];simp
def bU (l:List (Nat × Value)):Op→Option Value
 | .move x=>fO l x
 | .assign x=>fO l x
 | .pick c x y=>match fO l c with
  | some (.bool true)=>fO l x
  | some (.bool false)=>fO l y
  | _=>none
 | .extract x ix=>match fO l x with
  | some (.tuple t)=>t[ix]?
  | _=>none
 | _=>none
def plain (L:List Oper) (l:List (Nat × Value)) (o:Oper):Option Value:=match gd L l o.guard with
 | some true=>bU l o.op
 | some false=>some undef
 | none=>none
def NS (L:List Oper):List (Bool × Nat × Nat)→List (Nat × Value)→List (Bool × Nat × Nat) × List (Nat × Value)
 | [],l=>([],l)
 | (k,i,m)::r,l=>match nth L i with
  | none=>((k,i,m)::r,l)
  | some o=>match o.dst with
   | none=>((k,i,m)::r,l)
   | some d=>match plain L l o with
    | none=>((k,i,m)::r,l)
    | some v=>NS L r ((d,v)::l)
section
variable {P:Program} {L:List Oper} {S:World→Prop} {K:List (Nat × Value)→World→Prop}
theorem OM {l:List (Nat × Value)} {o:Oper} {v:Value} (h:bU l o.op=some v) (ρ:Operand→Value) (hρ:Cons ρ l) (X:World):(execOp ρ o).run P X = .ok (.value v) X:=by
 unfold execOp;cases ho:o.op<;>rw [ho] at h<;>simp only [bU] at h<;>try (cases h;done)
 case move x=>show Result.ok (Next.value (ρ x)) X=_;rw [hρ.fO h]
 case assign x=>show Result.ok (Next.value (ρ x)) X=_;rw [hρ.fO h]
 case pick c x y =>
  split at h
  · next hc =>show (asBool (ρ c) >>= fun t=>pure (Next.value (if t then ρ x else ρ y))).run P X=_;rw [hρ.fO hc,hρ.fO h |>.symm];rfl
  · next hc =>show (asBool (ρ c) >>= fun t=>pure (Next.value (if t then ρ x else ρ y))).run P X=_;rw [hρ.fO hc,hρ.fO h |>.symm];rfl
  · cases h
 case extract x ix =>
  split at h
  · next hx=>exact fI _ X (by rw [hρ.fO hx];simp [Instr.extract,h])
  · cases h
theorem QF:∀ (r:List (Bool × Nat × Nat)) (l:List (Nat × Value)) {w:World},S w→iP P L S K (NS L r l).1 (NS L r l).2 w→iP P L S K r l w
 | [],l,w,_,h=>h
 | (k,i,m)::r,l,w,hS,h=>by
  unfold NS at h;split at h
  · exact h
  · next o ho =>
    split at h
    · exact h
    · next d hd =>
      split at h
      · exact h
      · next v hv =>
        have ih:=QF r _ hS h;unfold plain at hv;split at hv
        · next hg=>exact jS hS ho hd hg (fun ρ hρ X _=>OM hv ρ hρ X) ih
        · next hg=>cases hv;exact Kb ho hd hg ih
        · cases hv
theorem aZ {r r':List (Bool × Nat × Nat)} {l l':List (Nat × Value)} {w:World} (hS:S w) (e:NS L r l=(r',l')) (h:iP P L S K r' l' w):iP P L S K r l w:=QF r l hS (by rw [e];exact h)
end
theorem zJ {z:Int} (h1 : -9223372036854775808≤z) (h2:z≤9223372036854775807):IntKind.i64.wrap z=z:=by simp only [IntKind.wrap,IntKind.signed,IntKind.bits,Bool.true_and];simp;split<;>omega
section
variable {P:Program} {T:TypeId} {x y:Operand} {k k':IntKind} {a b c:Int} {v:Bool}
abbrev Bn (P:Program) (op:BinOp) (T:TypeId) (x y:Operand) (u u':Value) (X:World):Result Value:=(do eqGuard op T x y u u';binOp op T u u':Sem Value).run P X
theorem Qm (h:k.wrap (a+b)=c) (X:World):Bn P .add T x y (.int k a) (.int k b) X = .ok (.int k c) X:=by subst h;simp [Bn,eqGuard,binOp,Op.intArith]
theorem af' (h:k.wrap (a-b)=c) (X:World):Bn P .sub T x y (.int k a) (.int k b) X = .ok (.int k c) X:=by subst h;simp [Bn,eqGuard,binOp,Op.intArith]
theorem aey (h:k.wrap (a*b)=c) (X:World):Bn P .mul T x y (.int k a) (.int k b) X = .ok (.int k c) X:=by subst h;simp [Bn,eqGuard,binOp,Op.intArith]
theorem aex (h0:b≠0) (h:k.wrap (a.tdiv b)=c) (X:World):Bn P .quo T x y (.int k a) (.int k b) X = .ok (.int k c) X:=by subst h;simp [Bn,eqGuard,binOp,Op.intDiv,h0]
theorem qY (h:(a==b)=v) (X:World):Bn P .eql T x y (.int k a) (.int k b) X = .ok (.bool v) X:=by subst h;simp [Bn,eqGuard,binOp,Op.intCmp]
theorem abg (h:(a != b)=v) (X:World):Bn P .neq T x y (.int k a) (.int k b) X = .ok (.bool v) X:=by subst h;simp [Bn,eqGuard,binOp,Op.intCmp]
theorem abh (h:decide (a<b)=v) (X:World):Bn P .lss T x y (.int k a) (.int k b) X = .ok (.bool v) X:=by subst h;simp [Bn,eqGuard,binOp,Op.intCmp]
theorem abj (h:decide (a≤b)=v) (X:World):Bn P .leq T x y (.int k a) (.int k b) X = .ok (.bool v) X:=by subst h;simp [Bn,eqGuard,binOp,Op.intCmp]
theorem abk (h:decide (b<a)=v) (X:World):Bn P .gtr T x y (.int k a) (.int k b) X = .ok (.bool v) X:=by subst h;simp [Bn,eqGuard,binOp,Op.intCmp]
theorem abl (h:decide (b≤a)=v) (X:World):Bn P .geq T x y (.int k a) (.int k b) X = .ok (.bool v) X:=by subst h;simp [Bn,eqGuard,binOp,Op.intCmp]
end
def LC (l:List (Nat × Value)) (x:Operand):Value:=(fO l x).getD undef
def known (l:List (Nat × Value)):Op→Bool
 | .unOp _ _ x=>(fO l x).isSome
 | .binOp _ _ x y _=>(fO l x).isSome&&(fO l y).isSome
 | .convert _ _ x=>(fO l x).isSome
 | .makeInterface _ x=>(fO l x).isSome
 | .fieldAddr _ x _=>(fO l x).isSome
 | .field _ x _=>(fO l x).isSome
 | .index _ x y=>(fO l x).isSome&&(fO l y).isSome
 | .indexAddr _ x y=>(fO l x).isSome&&(fO l y).isSome
 | .extract x _=>(fO l x).isSome
 | .load _ x=>(fO l x).isSome
 | .alloc _=>true
 | .box _ x=>(fO l x).isSome
 | .store _ x y=>(fO l x).isSome&&(fO l y).isSome
 | .build _ ps=>ps.toList.all fun p=>(fO l p.2).isSome
 | .buildSlice _ _ ps=>ps.toList.all fun p=>(fO l p.2).isSome
 | .slice _ x lo hi mx=>(fO l x).isSome&&(lo.all fun z=>(fO l z).isSome)&&(hi.all fun z=>(fO l z).isSome)&&(mx.all fun z=>(fO l z).isSome)
 | .typeAssert x _ _ _=>(fO l x).isSome
 | _=>false
theorem kL {ρ:Operand→Value} {l:List (Nat × Value)} (h:Cons ρ l) {x:Operand} (hx:(fO l x).isSome=true):ρ x=LC l x:=by obtain ⟨v,hv⟩:=Option.isSome_iff_exists.1 hx;rw [h.fO hv,LC,hv];rfl
theorem QG {ρ:Operand→Value} {l:List (Nat × Value)} (h:Cons ρ l) (ps:Array (Nat × Operand)) (hp:(ps.toList.all fun p=>(fO l p.2).isSome)=true):ps.map (fun (i,x)=>(i,ρ x))=ps.map (fun (i,x)=>(i,LC l x)):=by apply Array.map_congr_left;intro p hm;rw [List.all_eq_true] at hp;show (p.1,ρ p.2)=(p.1,LC l p.2);rw [kL h (hp p (Array.mem_toList_iff.2 hm))]
theorem Kc {ρ:Operand→Value} {l:List (Nat × Value)} (h:Cons ρ l) {o:Option Operand} (hp:(o.all fun z=>(fO l z).isSome)=true):o.map ρ=o.map (LC l):=by
 cases o with
 | none=>rfl
 | some x=>simp only [Option.map_some];rw [kL h (by simpa using hp)]
theorem ku {ρ:Operand→Value} {l:List (Nat × Value)} (h:Cons ρ l) {o:Oper} (hk:known l o.op=true):execOp ρ o=execOp (LC l) o:=by
 unfold execOp;cases ho:o.op<;>rw [ho] at hk<;>simp only [known,Bool.and_eq_true] at hk<;>try (cases hk;done)
 case unOp=>dsimp only;rw [kL h hk]
 case binOp=>dsimp only;rw [kL h hk.1,kL h hk.2]
 case convert=>dsimp only;rw [kL h hk]
 case makeInterface=>dsimp only;rw [kL h hk]
 case fieldAddr=>dsimp only;rw [kL h hk]
 case field=>dsimp only;rw [kL h hk]
 case index=>dsimp only;rw [kL h hk.1,kL h hk.2]
 case indexAddr=>dsimp only;rw [kL h hk.1,kL h hk.2]
 case extract=>dsimp only;rw [kL h hk]
 case load=>dsimp only;rw [kL h hk]
 case box=>dsimp only;rw [kL h hk]
 case store=>dsimp only;rw [kL h hk.1,kL h hk.2]
 case build=>dsimp only;rw [QG h _ hk]
 case buildSlice=>dsimp only;rw [QG h _ hk]
 case slice=>dsimp only;rw [kL h hk.1.1.1,Kc h hk.1.1.2,Kc h hk.1.2,Kc h hk.2]
 case typeAssert=>dsimp only;rw [kL h hk]
section
variable {P:Program} {L:List Oper} {S:World→Prop} {K:List (Nat × Value)→World→Prop} {k:Bool} {i m d:Nat} {o:Oper} {r:List (Bool × Nat × Nat)} {l:List (Nat × Value)} {w w':World} {v:Value}
theorem kK (v:Value) (hS:S w) (ho:nth L i=some o) (hd:o.dst=some d) (hg:gd L l o.guard=some true) (hk:known l o.op=true) (he:∀ X,(execOp (LC l) o).run P X = .ok (.value v) X) (h:iP P L S K r ((d,v)::l) w):iP P L S K ((k,i,m)::r) l w:=jS hS ho hd hg (fun ρ hρ X _=>by rw [ku hρ hk];exact he X) h
theorem ac5 (v:Value) (w':World) (ho:nth L i=some o) (hd:o.dst=some d) (hg:gd L l o.guard=some true) (hk:known l o.op=true) (he:(execOp (LC l) o).run P w = .ok (.value v) w') (hS:S w') (h:iP P L S K r ((d,v)::l) w'):iP P L S K ((false,i,m)::r) l w:=l8 ho hd hg (fun ρ hρ=>by rw [ku hρ hk];exact he) hS h
theorem ZO {x y:Operand} {op:BinOp} {tx ty:TypeId} {u u':Value} (hr:∀ X,Bn P op tx x y u u' X = .ok v X) (hS:S w) (ho:nth L i=some o) (hop:o.op = .binOp op tx x y ty) (hd:o.dst=some d) (hg:gd L l o.guard=some true) (hx:fO l x=some u) (hy:fO l y=some u') (h:iP P L S K r ((d,v)::l) w):iP P L S K ((k,i,m)::r) l w:=bK hS ho hop hd hg hx hy hr h
theorem Ul {x:Operand} {t e:TypeId} {A:Option Addr} {n c:Nat} (hu:P.underlying t=some (.slice e)) (hS:S w) (ho:nth L i=some o) (hop:o.op = .call { callee:=.builtin .len,args:=#[x],argTypes:=#[t] }) (hd:o.dst=some d) (hg:gd L l o.guard=some true) (hx:fO l x=some (.slice A n c)) (h:iP P L S K r ((d,.int .i64 ((n:Nat):Int))::l) w):iP P L S K ((k,i,m)::r) l w :=
 jS hS ho hd hg (fun ρ hρ X _=>by
  obtain ⟨d',op',t',ps',ahM,gu'⟩:=o;cases hop;have e:=hρ.fO hx;simp [go_sem,e,Builtin.len_,run_underlying hu]) h
theorem wG {ty:TypeId} {dd:TypeDesc} {a:Addr} {X:World} (hu:P.underlying ty=some dd) (hd:dd.isRow=false) (hc:X.cell? a=some v):(Instr.loadAt ty (.pointer (some a))).run P X = .ok v X:=by cases dd<;>first | (simp [TypeDesc.isRow] at hd;done) | simp [Instr.loadAt,Instr.sureAddr,loadVar,isAgg,run_underlying hu,hc,Result.andThen]
theorem Qk {x:Operand} {ty:TypeId} {dd:TypeDesc} {a:Addr} (hu:P.underlying ty=some dd) (hd':dd.isRow=false) (hc:∀ X,S X→X.cell? a=some v) (hS:S w) (ho:nth L i=some o) (hop:o.op = .load ty x) (hd:o.dst=some d) (hg:gd L l o.guard=some true) (hx:fO l x=some (.pointer (some a))) (h:iP P L S K r ((d,v)::l) w):iP P L S K ((k,i,m)::r) l w:=jo hS ho hop hd hg hx (fun X hX=>wG hu hd' (hc X hX)) h
theorem vG {x:Operand} {ty:TypeId} {dd:TypeDesc} {a:Addr} (hu:P.underlying ty=some dd) (hd':dd.isRow=false) (hc:w.cell? a=some v) (hS:S w) (ho:nth L i=some o) (hop:o.op = .load ty x) (hd:o.dst=some d) (hg:gd L l o.guard=some true) (hx:fO l x=some (.pointer (some a))) (h:iP P L S K r ((d,v)::l) w):iP P L S K ((false,i,m)::r) l w:=bH hS ho hop hd hg hx (wG hu hd' hc) h
end
