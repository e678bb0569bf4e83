/- A function without loops, walked with its frame as a list of what is known. -/
import Derived.Test.YtnilonnkcbkdmaaGreatDoorBaa

namespace Go.Proofs.YtnilonnkcbkdmaaGreatDoor.Pl
open Go
set_option linter.all false
set_option maxRecDepth 100000
set_option maxHeartbeats 8000000
/-! A function without loops, walked with its frame as a list of what is known. -/
def Ks (P:Program) (Q:Exit→Act→World→Prop):List Code→Exit→Act→World→Prop
 | []=>Q
 | c::cs=>Exit.then (c.wp P (Ks P Q cs)) (Ks P Q cs)
def V (P:Program) (Q:Exit→Act→World→Prop) (n:Nat) (ds:List Deferred) (cs:List Code) (l:List (Nat × Value)) (w:World):Prop :=
 ∀ a,Ag n ds a l→Ks P Q cs .normal a w
section
variable {P:Program} {Q:Exit→Act→World→Prop} {n:Nat} {ds:List Deferred} {cs:List Code} {l:List (Nat × Value)} {w:World} {x y:Code}
theorem xK:∀ {cs:List Code} {a:Act} {w:World},Q .ret a w→Ks P Q cs .ret a w
 | [],_,_,h=>h
 | _::cs,_,_,h=>xK (cs:=cs) h
theorem sW:∀ {cs:List Code} {c:_} {a:Act} {w:World},Ks P Q cs (.panic c) a w↔Q (.panic c) a w
 | [],_,_,_=>Iff.rfl
 | _::cs,_,_,_=>sW (cs:=cs)
theorem az (h:V P Q n ds (x::y::cs) l w):V P Q n ds (.seq x y::cs) l w:=fun a ha=>wp_seq (h a ha)
theorem bN (h:V P Q n ds cs l w):V P Q n ds (.skip::cs) l w:=fun a ha=>wp_skip (h a ha)
theorem dh {c:Operand} (hc:ig l c=some (.bool true)) (h:V P Q n ds (x::cs) l w):V P Q n ds (.cond c x y::cs) l w:=fun a ha=>wp_cond_true (ha.cons.ig hc) (h a ha)
theorem bD {c:Operand} (hc:ig l c=some (.bool false)) (h:V P Q n ds (y::cs) l w):V P Q n ds (.cond c x y::cs) l w:=fun a ha=>wp_cond_false (ha.cons.ig hc) (h a ha)
theorem BS (h:∀ a,Ag n ds a l→Q .ret a w):V P Q n ds (.ret::cs) l w:=fun a ha=>wp_ret (xK (h a ha))
theorem apl {l':List (Nat × Value)} (hl:∀ t v,look l' t=some v→look l t=some v) (h:V P Q n ds cs l' w):V P Q n ds cs l w:=fun a ha=>h a (ha.less hl)
def Rc (l:List (Nat × Value)):List (Nat × Value)→Prop
 | []=>True
 | (d,v)::l'=>look l d=some v∧Rc l l'
theorem zn {l:List (Nat × Value)}:∀ {l':List (Nat × Value)},Rc l l'→∀ t v,look l' t=some v→look l t=some v
 | [],_,t,v,h=>by cases h
 | (d,u)::l',hs,t,v,h=>by
  unfold look at h
  cases hb:Nat.beq d t with
  | true =>
   rw [hb] at h
   obtain rfl:d=t:=Nat.eq_of_beq_eq_true hb
   cases h
   exact hs.1
  | false =>
   rw [hb] at h
   exact zn hs.2 t v h
theorem kS (l':List (Nat × Value)) (hl:Rc l l') (h:V P Q n ds cs l' w):V P Q n ds cs l w:=apl (zn hl) h
theorem aK:Rc l []:=trivial
theorem aa {d:Nat} {v:Value} {l':List (Nat × Value)} (h:look l d=some v) (hs:Rc l l'):Rc l ((d,v)::l'):=⟨h,hs⟩
theorem aX {L:List Oper} {S:World→Prop} {f M:Nat}:UB P L S Q n ds f M l w []:=trivial
theorem aJ {L:List Oper} {S:World→Prop} {f M i:Nat} {rs:List Nat} (h:gY P L S (G P L S Q n ds f (Nat.lor M (Nat.shiftLeft 1 i))) ((false,i,M)::[]) l w) (hs:UB P L S Q n ds f M l w rs):UB P L S Q n ds f M l w (i::rs):=⟨h,hs⟩
theorem Gc {c:Code} (R:List (Nat × Value)→World→Prop) (h1:∀ l' w',R l' w'→V P Q n ds cs l' w') (h2:(∀ l' w',R l' w'→V P Q n ds cs l' w')→V P Q n ds (c::cs) l w):V P Q n ds (c::cs) l w:=h2 h1
theorem qG {L:List Oper} {S:World→Prop} {K K':List (Nat × Value)→World→Prop} (hK:∀ l w,K l w→K' l w) :
  ∀ (r:List (Bool × Nat × Nat)) (l:List (Nat × Value)) (w:World),gY P L S K r l w→gY P L S K' r l w
 | [],l,w,h=>hK l w h
 | (k,i,m)::r,l,w,h=>by
  obtain ⟨o,ho,h⟩:=h
  refine ⟨o,ho,?_⟩
  rcases h with ⟨d,v,h1,hdd,hg,hy,h⟩ | ⟨d,hdd,hg,h⟩ | ⟨d,f,vs,h1,hdd,hg,hx,h⟩ | ⟨d,v,w',h1,hdd,hg,hx,hS,h⟩ | ⟨w',h1,hdd,hg,hx,hS,h⟩
  · exact .inl ⟨d,v,h1,hdd,hg,hy,qG hK r _ w h⟩
  · exact .inr (.inl ⟨d,hdd,hg,qG hK r _ w h⟩)
  · exact .inr (.inr (.inl ⟨d,f,vs,h1,hdd,hg,hx,Calls.mono h fun e w' ⟨v,he,hS,hh⟩=>⟨v,he,hS,qG hK r _ w' hh⟩⟩))
  · exact .inr (.inr (.inr (.inl ⟨d,v,w',h1,hdd,hg,hx,hS,qG hK r _ w' h⟩)))
  · exact .inr (.inr (.inr (.inr ⟨w',h1,hdd,hg,hx,hS,qG hK r _ w' h⟩)))
theorem G_V {L:List Oper} {S:World→Prop} {f M:Nat} (hM:Nat.beq M (Nat.sub (2^L.toArray.size) 1)=true) (h:V P Q n ds cs l w):G P L S (Ks P Q cs) n ds f M l w:=avI hM fun _=>h
theorem nK {id:Nat} {L:List Oper} {S:World→Prop} (hm:P.follows .mixedOrders=true) (hS:S w.drew) (h:S w.drew→G P L S (Ks P Q cs) n ds L.toArray.size 0 l w.drew):V P Q n ds (.region id L.toArray true::cs) l w :=
 fun a ha=>wp_region_held hm (h hS a _ ha (Lst.new _) hS)
def af9 (n:Nat) (L:List Oper) (r:List (Bool × Nat × Nat)):Bool :=
 Region.noSelect L.toArray&&(JA (tabs L.toArray) (Nat.sub (2^L.toArray.size) 1) r 0&&(Nat.beq r.length L.toArray.size&&CX n L))
theorem iN {id:Nat} {L:List Oper} {S:World→Prop} (r:List (Bool × Nat × Nat)) (hm:P.follows .mixedOrders=true)
  (hQ:∀ c (d:Option Tmp) v a w,Q (.panic c) (a.put d v) w→Q (.panic c) a w) (hk:af9 n L r=true) (hS:S w.drew)
  (h:S w.drew→gY P L S (V P Q n ds cs) r l w.drew):V P Q n ds (.region id L.toArray true::cs) l w:=by
 rw [af9,Bool.and_eq_true,Bool.and_eq_true,Bool.and_eq_true] at hk
 refine nK hm hS fun hS=>?_
 have:=af8 (f:=0) hk.1 (fun c d v a w hq=>sW.2 (hQ c d v a w (sW.1 hq))) (pY hk.2.2.2) r 0 l w.drew hk.2.1 (qG (fun l w hx=>G_V (P:=P) (Q:=Q) (cs:=cs) (by rw [beq_iff]) hx) r l w.drew (h hS))
 rw [Nat.add_zero,(beq_iff _ _).1 hk.2.2.1] at this
 exact this
theorem ay {id:Nat} {L:List Oper} (hk:CX n L=true)
  (h:gY P L (fun _=>True) (V P Q n ds cs) (idp 0 L) l w):V P Q n ds (.region id L.toArray false::cs) l w:=fun a ha =>
 wp_region_list (CY (S:=fun _=>True) (Q:=Ks P Q cs) (pY hk) L [] l w a rfl ha trivial h)
theorem bK {L:List Oper} {S:World→Prop} {f M:Nat} {Q:Exit→Act→World→Prop} (l':List (Nat × Value)) (hl:Rc l l') (h:G P L S Q n ds f M l' w):G P L S Q n ds f M l w:=fun a listed ha hL hS=>h a listed (ha.less (zn hl)) hL hS
theorem lm {L:List Oper} {S:World→Prop} {g M:Nat} {Q:Exit→Act→World→Prop} (f e:Nat) (R:List (Nat × Value)→World→Prop) (h1:∀ l' w',R l' w'→G P L S Q n ds f e l' w') (h2:(∀ l' w',R l' w'→G P L S Q n ds f e l' w')→G P L S Q n ds g M l w):G P L S Q n ds g M l w:=h2 h1
def XB (n:Nat) (L:List Oper):Bool:=Region.noSelect L.toArray&&CX n L
theorem aS {L:List Oper} {S:World→Prop} {M:Nat} (r:List (Bool × Nat × Nat)) (e f:Nat) {g:Nat} (hQ:∀ c (d:Option Tmp) v a w,Q (.panic c) (a.put d v) w→Q (.panic c) a w) (hk:XB n L=true) (hg:Nat.beq (Nat.add r.length f) g=true)
  (hp:JA (tabs L.toArray) e r M=true) (h:gY P L S (G P L S (Ks P Q cs) n ds f e) r l w):G P L S (Ks P Q cs) n ds g M l w:=by
 rw [XB,Bool.and_eq_true] at hk
 have:=af8 (f:=f) hk.1 (fun c d v a w hq=>sW.2 (hQ c d v a w (sW.1 hq))) (pY hk.2) r M l w hp h
 rwa [show r.length+f=g from (beq_iff _ _).1 hg] at this
theorem dY {L:List Oper} {S:World→Prop} {M:Nat} (rs:List Nat) (f:Nat) {g:Nat} (hk:XB n L=true) (hg:Nat.beq (Nat.succ f) g=true) (hr:af7 (tabs L.toArray) M rs=true) (h:UB P L S (Ks P Q cs) n ds f M l w rs):G P L S (Ks P Q cs) n ds g M l w:=by
 rw [XB,Bool.and_eq_true] at hk
 have:=avH (pY hk.2) rs hr h
 rwa [show f+1=g from (beq_iff _ _).1 hg] at this
theorem cK {id:Nat} {b:Code} (h:V P (Exit.inBlock id (Ks P Q cs)) n ds [b] l w):V P Q n ds (.block id b::cs) l w:=fun a ha=>wp_block (h a ha)
theorem bZ {id:Nat} (h:V P Q n ds cs l w):V P (Exit.inBlock id (Ks P Q cs)) n ds [] l w:=fun a ha=>h a ha
theorem jE {id:Nat} {cs':List Code} {N:Act→World→Prop} (h:V P Q n ds cs l w):V P (Exit.then N (Ks P (Exit.inBlock id (Ks P Q cs)) [])) n ds (.exit id::cs') l w:=fun a ha=>wp_exit (by
 have e:∀ (Q':Exit→Act→World→Prop) (cs':List Code),Q' (.exit id) a w→Ks P Q' cs' (.exit id) a w:=fun Q' cs'=>by
  induction cs' with
  | nil=>exact fun h=>h
  | cons c cs' ih=>exact fun h=>ih h
 refine e _ _ ?_
 show (if id=id then Ks P Q cs .normal a w else _)
 rw [if_pos rfl]
 exact h a ha)
theorem least {p:Nat→Prop} (h:∃ k,p k):∃ k,p k∧∀ j,p j→k≤j:=by
 obtain ⟨k,hk⟩:=h
 induction k using Nat.strongRecOn with
 | _ k ih =>
  by_cases hj:∃ j,j<k∧p j
  · obtain ⟨j,h1,h2⟩:=hj;exact ih j h1 h2
  · exact ⟨k,hk,fun j hj'=>Nat.le_of_not_lt fun hlt=>hj ⟨j,hlt,hj'⟩⟩
open Classical in
theorem mU {c:Code} (I:Nat→List (Nat × Value)→World→Prop) (k:Nat) (h0:I k l w)
  (hs:∀ k l w,I k l w→V P (Exit.then (fun a' w'=>∃ k' l',k'<k∧Ag n ds a' l'∧I k' l' w') (Ks P Q cs)) n ds [c] l w):V P Q n ds (.loop c::cs) l w:=fun a ha=>by
 have key:∀ (a:Act) (w:World),(∃ k,∃ l,Ag n ds a l∧I k l w)→∃ k,(∃ l,Ag n ds a l∧I k l w)∧∀ j,(∃ l,Ag n ds a l∧I j l w)→k≤j:=fun a w h=>least h
 refine wp_loop (fun a w=>∃ k,∃ l,Ag n ds a l∧I k l w) (fun a w=>if h:∃ k,∃ l,Ag n ds a l∧I k l w then (key a w h).choose else 0) ⟨k,l,ha,h0⟩ fun a w h=>?_
 obtain ⟨⟨l,ha,hI⟩,hmin⟩:=(key a w h).choose_spec
 refine Code.wp_mono ?_ (hs _ l w hI a ha)
 intro e a' w' hq
 cases e with
 | normal =>
  obtain ⟨k',l',hlt,ha',hI'⟩:=hq
  have h':∃ k,∃ l,Ag n ds a' l∧I k l w':=⟨k',l',ha',hI'⟩
  refine ⟨h',?_⟩
  show (if h:∃ k,∃ l,Ag n ds a' l∧I k l w' then (key a' w' h).choose else 0)<(if h:∃ k,∃ l,Ag n ds a l∧I k l w then (key a w h).choose else 0)
  rw [dif_pos h',dif_pos h]
  exact Nat.lt_of_le_of_lt ((key a' w' h').choose_spec.2 k' ⟨l',ha',hI'⟩) hlt
 | _=>exact hq
theorem iY {I:Nat→List (Nat × Value)→World→Prop} {Q':Exit→Act→World→Prop} {k k':Nat} (l':List (Nat × Value)) (hs:Rc l l') (hk:k'<k) (hI:I k' l' w) :
 V P (Exit.then (fun a' w'=>∃ k' l',k'<k∧Ag n ds a' l'∧I k' l' w') Q') n ds [] l w:=fun a ha=>⟨k',l',hk,ha.less (zn hs),hI⟩
def af':Nat→List Value→List (Nat × Value)
 | _,[]=>[]
 | i,v::vs=>(i,v)::af' (i+1) vs
theorem El {t:Nat} {v:Value}:∀ {vs:List Value} {i:Nat},look (af' i vs) t=some v→i≤t∧vs[t-i]?=some v
 | [],i,h=>by cases h
 | u::vs,i,h=>by
  unfold af' look at h
  cases hb:Nat.beq i t with
  | true =>
   rw [hb] at h
   obtain rfl:i=t:=Nat.eq_of_beq_eq_true hb
   rw [Nat.sub_self]
   exact ⟨Nat.le_refl _,h⟩
  | false =>
   rw [hb] at h
   obtain ⟨h1,h2⟩:=El h
   refine ⟨by omega,?_⟩
   rw [show t-i=(t-(i+1))+1 from by omega]
   exact h2
theorem aV {f:FuncId} {fn:Func} {c:Code} {vs:List Value} {R:Ending→World→Prop} (hf:P.funcs[f]?=some fn) (hb:fn.body=some c) (hn:Nat.beq fn.ntmps n=true) (hle:Nat.ble vs.length n=true)
  (h:V P (bodyPost P fn R) n [] [c] (af' 0 vs) w):Calls P f vs.toArray w R:=by
 have hn':vs.length≤n:=Nat.le_of_ble_eq_true hle
 have hn2:fn.ntmps=n:=(beq_iff _ _).1 hn
 refine calls_of_wp hf hb (h _ ⟨?_,rfl,fun t v ht=>?_⟩)
 · rw [hn2];simp;omega
 · obtain ⟨_,hj⟩:=El ht
   rw [Nat.sub_zero] at hj
   have hlt:t<vs.length:=(List.getElem?_eq_some_iff.1 hj).1
   show (vs.toArray++Array.replicate (fn.ntmps-vs.toArray.size) undef)[t]?=some v
   rw [Array.getElem?_append_left (by simpa using hlt)]
   simpa using hj
theorem bU {fn:Func} {R:Ending→World→Prop} {t:Tmp} {v:Value} (hr:fn.results=#[.tmp t]) (hv:look l t=some v) (h:R (.returned v) w) :
  V P (bodyPost P fn R) n [] (.ret::cs) l w:=BS fun a ha=>by
 refine ⟨ha.defers,v,?_,h⟩
 unfold results
 rw [hr]
 have:a.tmps.getD t undef=v:=by rw [Array.getD_eq_getD_getElem?,ha.look t v hv];rfl
 simp only [List.mapM_toArray,List.mapM_cons,List.mapM_nil,this]
 rfl
theorem iV {fn:Func} {R:Ending→World→Prop} {t t2:Tmp} {v v2:Value} (hr:fn.results=#[.tmp t,.tmp t2]) (hv:look l t=some v) (hv2:look l t2=some v2) (h:R (.returned (.tuple #[v,v2])) w) :
  V P (bodyPost P fn R) n [] (.ret::cs) l w:=BS fun a ha=>by
 refine ⟨ha.defers,.tuple #[v,v2],?_,h⟩
 unfold results
 rw [hr]
 have e1:a.tmps.getD t undef=v:=by rw [Array.getD_eq_getD_getElem?,ha.look t v hv];rfl
 have e2:a.tmps.getD t2 undef=v2:=by rw [Array.getD_eq_getD_getElem?,ha.look t2 v2 hv2];rfl
 simp only [List.mapM_toArray,List.mapM_cons,List.mapM_nil,e1,e2]
 rfl
theorem aD {fn:Func} {R:Ending→World→Prop} (c:_) (d:Option Tmp) (v:Value) (a:Act) (w:World) (h:bodyPost P fn R (.panic c) (a.put d v) w):bodyPost P fn R (.panic c) a w:=by
 cases d<;>exact h
end
section
variable {P:Program} {L:List Oper} {S:World→Prop} {K:List (Nat × Value)→World→Prop} {k:Bool} {i m d:Nat} {o:Oper} {r:List (Bool × Nat × Nat)} {l:List (Nat × Value)} {w w':World} {v:Value}
theorem ed (ho:nth L i=some o) (hd:o.dst=some d) (hg:gd L l o.guard=some false) (h:gY P L S K r ((d,undef)::l) w):gY P L S K ((k,i,m)::r) l w:=⟨o,ho,.inr (.inl ⟨d,hd,hg,h⟩)⟩
theorem mF (s:Sem Value) (X:World) (h:s.run P X = .ok v X):(do pure (Next.value (← s)):Sem Next).run P X = .ok (.value v) X:=by
 show (s >>= fun u=>pure (Next.value u)).run P X=_
 rw [Sem.run_bind,h];rfl
theorem jy (s:Sem Value) {X X':World} (h:s.run P X = .ok v X'):(do pure (Next.value (← s)):Sem Next).run P X = .ok (.value v) X':=by
 show (s >>= fun u=>pure (Next.value u)).run P X=_
 rw [Sem.run_bind,h];rfl
theorem aA {f:FuncId} {xs:List Operand} {ats:Array TypeId} {vs:List Value} (ho:nth L i=some o) (hop:o.op = .call { callee:=.value (.func f),args:=xs.toArray,argTypes:=ats }) (hd:o.dst=some d)
  (hg:gd L l o.guard=some true) (hx:zM l xs=some vs) (hf:∀ (u:Array Value) X,(callFunc f u).run P X = .ok (.enter f u) X)
  (hc:Calls P f vs.toArray w (fun e w'=>∃ v,e = .returned v∧S w'∧gY P L S K r ((d,v)::l) w')):gY P L S K ((false,i,m)::r) l w :=
 ⟨o,ho,.inr (.inr (.inl ⟨d,f,vs.toArray,rfl,hd,hg,fun ρ hρ=>by
  unfold execOp
  rw [hop]
  show (resolve ρ _ _ >>= fun d=>invoke d.target d.args).run P w=_
  unfold resolve
  show (Deferred.ofValue (ρ (.func f)) (xs.toArray.map ρ) >>= fun d=>invoke d.target d.args).run P w=_
  rw [hρ.func]
  show (callFunc f ((#[]++xs.toArray.map ρ)++#[])).run P w=_
  have e:(#[]++xs.toArray.map ρ)++#[]=vs.toArray:=by rw [← hρ.zM hx];simp
  rw [e]
  exact hf _ w,hc⟩))⟩
theorem enters {f:FuncId} {fn:Func} {c:Code} (hf:P.funcs[f]?=some fn) (hname:(fn.name == "runtime.NumGoroutine")=false) (hb:fn.body=some c) (u:Array Value) (X:World):(callFunc f u).run P X = .ok (.enter f u) X:=by
 simp [callFunc,go_sem,hf,show ¬ fn.name = "runtime.NumGoroutine" from by simpa using hname,hb]
theorem kU (ho:nth L i=some o) (hd:o.dst=some d) (hg:gd L l o.guard=some true) (hx:∀ ρ,Cons ρ l→(execOp ρ o).run P w = .ok (.value v) w') (hS:S w')
 (h:gY P L S K r ((d,v)::l) w'):gY P L S K ((false,i,m)::r) l w:=⟨o,ho,.inr (.inr (.inr (.inl ⟨d,v,w',rfl,hd,hg,hx,hS,h⟩)))⟩
theorem avJ (ho:nth L i=some o) (hd:o.dst=none) (hg:gd L l o.guard=some true) (hx:∀ ρ,Cons ρ l→(execOp ρ o).run P w = .ok .skip w') (hS:S w')
 (h:gY P L S K r l w'):gY P L S K ((false,i,m)::r) l w:=⟨o,ho,.inr (.inr (.inr (.inr ⟨w',rfl,hd,hg,hx,hS,h⟩)))⟩
theorem ajq (ho:nth L i=some o) (hd:o.dst=some d) (hg:gd L l o.guard=some true) (hy:∀ ρ,Cons ρ l→∀ X,S X→(execOp ρ o).run P X = .ok (.value v) X)
 (h:gY P L S K r ((d,v)::l) w):gY P L S K ((true,i,m)::r) l w:=⟨o,ho,.inl ⟨d,v,rfl,hd,hg,hy,h⟩⟩
theorem dV (hS:S w) (ho:nth L i=some o) (hd:o.dst=some d) (hg:gd L l o.guard=some true) (hy:∀ ρ,Cons ρ l→∀ X,S X→(execOp ρ o).run P X = .ok (.value v) X)
  (h:gY P L S K r ((d,v)::l) w):gY P L S K ((k,i,m)::r) l w:=by
 cases k with
 | true=>exact ajq ho hd hg hy h
 | false=>exact kU ho hd hg (fun ρ hρ=>hy ρ hρ w hS) hS h
theorem ah {x:Operand} (hS:S w) (ho:nth L i=some o) (hop:o.op = .move x) (hd:o.dst=some d) (hg:gd L l o.guard=some true) (hx:ig l x=some v)
 (h:gY P L S K r ((d,v)::l) w):gY P L S K ((k,i,m)::r) l w:=dV hS ho hd hg (fun ρ hρ X _=>by unfold execOp;rw [hop];show Result.ok (Next.value (ρ x)) X=_;rw [hρ.ig hx]) h
theorem aj {x:Operand} (hS:S w) (ho:nth L i=some o) (hop:o.op = .assign x) (hd:o.dst=some d) (hg:gd L l o.guard=some true) (hx:ig l x=some v)
 (h:gY P L S K r ((d,v)::l) w):gY P L S K ((k,i,m)::r) l w:=dV hS ho hd hg (fun ρ hρ X _=>by unfold execOp;rw [hop];show Result.ok (Next.value (ρ x)) X=_;rw [hρ.ig hx]) h
theorem aO {c x y:Operand} {b:Bool} (hS:S w) (ho:nth L i=some o) (hop:o.op = .pick c x y) (hd:o.dst=some d) (hg:gd L l o.guard=some true) (hc:ig l c=some (.bool b)) (hx:ig l (if b then x else y)=some v)
 (h:gY P L S K r ((d,v)::l) w):gY P L S K ((k,i,m)::r) l w:=dV hS ho hd hg (fun ρ hρ X _=>by
  unfold execOp;rw [hop]
  show (asBool (ρ c) >>= fun t=>pure (Next.value (if t then ρ x else ρ y))).run P X=_
  rw [hρ.ig hc,← hρ.ig hx]
  cases b<;>rfl) h
theorem aR {x:Operand} {ty:TypeId} {p:Value} (hS:S w) (ho:nth L i=some o) (hop:o.op = .load ty x) (hd:o.dst=some d) (hg:gd L l o.guard=some true) (hx:ig l x=some p)
  (hr:∀ X,S X→(Instr.loadAt ty p).run P X = .ok v X) (h:gY P L S K r ((d,v)::l) w):gY P L S K ((k,i,m)::r) l w :=
 dV hS ho hd hg (fun ρ hρ X hX=>by unfold execOp;rw [hop];exact mF _ X (by rw [hρ.ig hx];exact hr X hX)) h
theorem aH {x:Operand} {ty:TypeId} {p:Value} (hS:S w) (ho:nth L i=some o) (hop:o.op = .load ty x) (hd:o.dst=some d) (hg:gd L l o.guard=some true) (hx:ig l x=some p)
  (hr:(Instr.loadAt ty p).run P w = .ok v w) (h:gY P L S K r ((d,v)::l) w):gY P L S K ((false,i,m)::r) l w :=
 kU ho hd hg (fun ρ hρ=>by unfold execOp;rw [hop];exact mF _ w (by rw [hρ.ig hx];exact hr)) hS h
theorem ak (h:K l w):gY P L S K [] l w:=h
theorem JC {ty:TypeId} (ho:nth L i=some o) (hop:o.op = .alloc ty) (hd:o.dst=some d) (hg:gd L l o.guard=some true)
  (hr:(Instr.alloc ty true (.tuple #[])).run P w = .ok v w') (hS:S w') (h:gY P L S K r ((d,v)::l) w'):gY P L S K ((false,i,m)::r) l w :=
 kU ho hd hg (fun ρ hρ=>by
  unfold execOp;rw [hop]
  show (Instr.alloc ty true (.tuple #[]) >>= fun u=>pure (Next.value u)).run P w=_
  rw [Sem.run_bind,hr];rfl) hS h
theorem bT {x y:Operand} {ty:TypeId} {p u:Value} (ho:nth L i=some o) (hop:o.op = .store ty x y) (hd:o.dst=none) (hg:gd L l o.guard=some true) (hx:ig l x=some p) (hy:ig l y=some u)
  (hr:(Instr.storeAt ty p u).run P w = .ok () w') (hS:S w') (h:gY P L S K r l w'):gY P L S K ((false,i,m)::r) l w :=
 avJ ho hd hg (fun ρ hρ=>by
  unfold execOp;rw [hop]
  show (Instr.storeAt ty (ρ x) (ρ y) >>= fun _=>pure Next.skip).run P w=_
  rw [hρ.ig hx,hρ.ig hy,Sem.run_bind,hr];rfl) hS h
theorem aB {x:Operand} {ix:Nat} {t:Array Value} (hS:S w) (ho:nth L i=some o) (hop:o.op = .extract x ix) (hd:o.dst=some d) (hg:gd L l o.guard=some true) (hx:ig l x=some (.tuple t)) (hv:t[ix]?=some v)
  (h:gY P L S K r ((d,v)::l) w):gY P L S K ((k,i,m)::r) l w :=
 dV hS ho hd hg (fun ρ hρ X hX=>by unfold execOp;rw [hop];exact mF _ X (by rw [hρ.ig hx];simp [Instr.extract,hv])) h
theorem nY {x:Operand} {op:UnOp} {ty:TypeId} {u:Value} (hS:S w) (ho:nth L i=some o) (hop:o.op = .unOp op ty x) (hd:o.dst=some d) (hg:gd L l o.guard=some true) (hx:ig l x=some u)
  (hr:∀ X,(Op.unary op u).run P X = .ok v X) (h:gY P L S K r ((d,v)::l) w):gY P L S K ((k,i,m)::r) l w :=
 dV hS ho hd hg (fun ρ hρ X _=>by unfold execOp;rw [hop];exact mF _ X (by rw [hρ.ig hx];exact hr X)) h
theorem aI {x y:Operand} {op:BinOp} {tx ty:TypeId} {u u':Value} (hS:S w) (ho:nth L i=some o) (hop:o.op = .binOp op tx x y ty) (hd:o.dst=some d) (hg:gd L l o.guard=some true) (hx:ig l x=some u) (hy:ig l y=some u')
  (hr:∀ X,(do eqGuard op tx x y u u';binOp op tx u u':Sem Value).run P X = .ok v X) (h:gY P L S K r ((d,v)::l) w):gY P L S K ((k,i,m)::r) l w :=
 dV hS ho hd hg (fun ρ hρ X _=>by unfold execOp;rw [hop];exact mF _ X (by rw [hρ.ig hx,hρ.ig hy];exact hr X)) h
end
end Go.Proofs.YtnilonnkcbkdmaaGreatDoor.Pl
