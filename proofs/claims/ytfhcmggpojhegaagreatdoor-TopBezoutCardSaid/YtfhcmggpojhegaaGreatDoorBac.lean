/- Ranges over functions, walked with the frame as a list of what is known. -/
import Derived.Test.YtfhcmggpojhegaaGreatDoorBaa
import Derived.Test.YtfhcmggpojhegaaGreatDoorBab
import Derived.RangeFuncSeq
import Derived.RangeFuncLeaves
import Derived.OrdersIn
import Derived.TacticsIn

namespace Go.Proofs.YtfhcmggpojhegaaGreatDoor.Pl
open Go
set_option linter.all false
set_option maxRecDepth 100000
set_option maxHeartbeats 8000000
/-! Ranges over functions: code inside a round, calls of yield, the statement itself. -/
abbrev WF (ro:Option Nat):Fence:={ Fence.wide with round:=ro }
theorem Nz {ro:Option Nat} {n:Nat} {P:Program} {f:FuncId} {args:Array Value} {w:World} {R:Ending→World→Prop}:CallsIn (WF ro) n P f args w R↔Calls P f args w R:=callsIn_wide (n:=n)
def KsI (P:Program) (ro:Option Nat) (Q:Exit→Act→World→Prop):List Code→Exit→Act→World→Prop
 | []=>Q
 | c::cs=>Exit.then (c.wpIn (WF ro) 0 P (KsI P ro Q cs)) (KsI P ro Q cs)
def VI (P:Program) (Q:Exit→Act→World→Prop) (ro:Option Nat) (n:Nat) (ds:List Deferred) (cs:List Code) (l:List (Nat × Value)) (w:World):Prop :=
 ∀ a,Ag n ds a l→KsI P ro Q cs .normal a w
theorem FO {P:Program} {Q:Exit→Act→World→Prop}:∀ (cs:List Code) (e:Exit) (a:Act) (w:World),KsI P none Q cs e a w↔Ks P Q cs e a w
 | [],e,a,w=>Iff.rfl
 | c::cs,e,a,w=>by
  have ih:=FO (P:=P) (Q:=Q) cs
  cases e with
  | normal =>
   show c.wpIn Fence.wide 0 P (KsI P none Q cs) a w↔c.wp P (Ks P Q cs) a w
   rw [wpIn_wide]
   exact ⟨fun h=>wp_mono h fun e a w h=>(ih e a w).1 h,fun h=>wp_mono h fun e a w h=>(ih e a w).2 h⟩
  | _=>exact ih _ a w
section
variable {P:Program} {Q:Exit→Act→World→Prop} {ro:Option Nat} {n:Nat} {ds:List Deferred} {cs:List Code} {l:List (Nat × Value)} {w:World} {x y:Code}
theorem Lf (h:V P Q n ds cs l w):VI P Q none n ds cs l w:=fun a ha=>(FO _ _ _ _).2 (h a ha)
theorem TM (h:VI P Q none n ds cs l w):V P Q n ds cs l w:=fun a ha=>(FO _ _ _ _).1 (h a ha)
theorem TN:∀ {cs:List Code} {a:Act} {w:World},Q .ret a w→KsI P ro Q cs .ret a w
 | [],_,_,h=>h
 | _::cs,_,_,h=>TN (cs:=cs) h
theorem jh (h:VI P Q ro n ds (x::y::cs) l w):VI P Q ro n ds (.seq x y::cs) l w:=fun a ha=>wpIn_seq (h a ha)
theorem Tt (h:VI P Q ro n ds cs l w):VI P Q ro n ds (.skip::cs) l w:=fun a ha=>wpIn_skip (h a ha)
theorem ade {c:Operand} (hc:dF l c=some (.bool true)) (h:VI P Q ro n ds (x::cs) l w):VI P Q ro n ds (.cond c x y::cs) l w:=fun a ha=>wpIn_cond_true (ha.cons.dF hc) (h a ha)
theorem M7 {c:Operand} (hc:dF l c=some (.bool false)) (h:VI P Q ro n ds (y::cs) l w):VI P Q ro n ds (.cond c x y::cs) l w:=fun a ha=>wpIn_cond_false (ha.cons.dF hc) (h a ha)
theorem ag1 (h:∀ a,Ag n ds a l→Q .ret a w):VI P Q ro n ds (.ret::cs) l w:=fun a ha=>wpIn_ret (TN (h a ha))
theorem yI (h:∀ a,Ag n ds a l→Q .normal a w):VI P Q ro n ds [] l w:=h
theorem Fz {id:Nat} {b:Code} (h:VI P (Exit.inBlock id (KsI P ro Q cs)) ro n ds [b] l w):VI P Q ro n ds (.block id b::cs) l w:=fun a ha=>wpIn_block (h a ha)
theorem qV {id:Nat} (h:VI P Q ro n ds cs l w):VI P (Exit.inBlock id (KsI P ro Q cs)) ro n ds [] l w:=fun a ha=>h a ha
theorem TP {id:Nat}:∀ {cs:List Code} {a:Act} {w:World},Q (.exit id) a w→Ks P Q cs (.exit id) a w
 | [],_,_,h=>h
 | _::cs,_,_,h=>TP (cs:=cs) h
theorem PW {id:Nat} {cs':List Code} (h:V P Q n ds cs l w):V P (Exit.inBlock id (Ks P Q cs)) n ds (.exit id::cs') l w:=fun a ha=>wp_exit (by
 refine TP ?_
 show (if id=id then Ks P Q cs .normal a w else _)
 rw [if_pos rfl]
 exact h a ha)
/-! A loop of few rounds, one round after another. -/
def Unr (P:Program) (Q:Exit→Act→World→Prop) (n:Nat) (ds:List Deferred) (cs:List Code) (c:Code):Nat→List (Nat × Value)→World→Prop
 | 0,l,w=>V P (Exit.then (fun _ _=>False) (Ks P Q cs)) n ds [c] l w
 | k+1,l,w=>V P (Exit.then (fun a' w'=>∃ l',Ag n ds a' l'∧Unr P Q n ds cs c k l' w') (Ks P Q cs)) n ds [c] l w
theorem sH {c:Code} (k:Nat) (h:Unr P Q n ds cs c k l w):V P Q n ds (.loop c::cs) l w:=by
 refine pV (fun k l w=>Unr P Q n ds cs c k l w) k h fun k l w hU=>?_
 cases k with
 | zero =>
  intro a ha
  refine wp_mono (hU a ha) fun e a w hq=>?_
  cases e with
  | normal=>exact hq.elim
  | _=>exact hq
 | succ k =>
  intro a ha
  refine wp_mono (hU a ha) fun e a w hq=>?_
  cases e with
  | normal=>obtain ⟨l',ha',h'⟩:=hq;exact ⟨k,l',Nat.lt_succ_self k,ha',h'⟩
  | _=>exact hq
theorem sI {c:Code} (h:V P (Exit.then (fun _ _=>False) (Ks P Q cs)) n ds [c] l w):Unr P Q n ds cs c 0 l w:=h
/-! A return from inside of loops and blocks. -/
theorem JF {id:Nat} {a:Act} (h:Q .ret a w):Exit.inBlock id Q .ret a w:=h
theorem Ni {N:Act→World→Prop} {a:Act} (h:Q .ret a w):Exit.then N Q .ret a w:=h
theorem TE {fn:Func} {R:Ending→World→Prop} {t:Tmp} {v:Value} {a:Act} (ha:Ag n [] a l) (hr:fn.results=#[.tmp t]) (hv:look l t=some v) (h:R (.returned v) w):bodyPost P fn R .ret a w:=by
 refine ⟨ha.defers,v,?_,h⟩
 unfold results
 rw [hr]
 have:a.tmps.getD t undef=v:=by rw [Array.getD_eq_getD_getElem?,ha.look t v hv];rfl
 simp only [List.mapM_toArray,List.mapM_cons,List.mapM_nil,this]
 rfl
/-! Operations. -/
theorem Al {ρ:Operand→Value} {o:Oper} {w w':World} {x:Next} (h:(execOp ρ o).run P w = .ok x w') (hx:∀ d,x≠.defer d):(o.semAt ro ρ).run P w = .ok x w':=by
 by_cases hd:∃ c,o.op = .defer c
 · obtain ⟨c,hc⟩:=hd
   exfalso
   unfold execOp at h
   rw [hc] at h
   simp only [Sem.run_bind] at h
   revert h
   generalize (resolve ρ _ _).run P w=r
   intro h
   cases r with
   | ok d w1 =>
    simp only [Result.andThen] at h
    revert h
    first
     | (intro h;simp only [Sem.run_pure,Result.ok.injEq] at h;exact hx _ h.1.symm)
     | skip
   | halt e w1=>simp [Result.andThen] at h
 · rw [Oper.semAt_eq _ _ _ (fun c hc=>hd ⟨c,hc⟩)];exact h
end
section
variable {P:Program} {L:List Oper} {S:World→Prop} {K:List (Nat × Value)→World→Prop} {Q:Exit→Act→World→Prop} {ro:Option Nat} {n f:Nat} {ds:List Deferred}
theorem vJ {o:Oper} {w:World} {ρ:Operand→Value}:∀ f,o.about P w ρ=some f→(WF ro).fn f:=fun _ _=>trivial
theorem FP {m:Nat}:(WF ro).depth.isSome=true→1≤m:=fun h=>by cases h
theorem Yz {k:Bool} {i m:Nat} {l:List (Nat × Value)} {w:World} {a:Act} {o:Oper} {R:Act→World→Prop} (hd:∀ d,o.dst=some d→d<n) (ho:nth L i=some o) (ha:Ag n ds a l) (hS:S w)
  (h:dO P L S K ((false,i,m)::[]) l w) (hR:∀ a l w,Ag n ds a l→S w→K l w→R a w):wpOpIn (WF ro) 0 P L.toArray Q i (fun a' w'=>S w'∧R a' w') a w:=by
 obtain ⟨o',ho',h⟩:=h
 obtain rfl:o=o':=Option.some.inj (ho.symm.trans ho')
 have hoi:L.toArray[i]?=some o:=by rw [List.getElem?_toArray,← p9];exact ho
 unfold wpOpIn
 simp only [hoi]
 rcases h with ⟨d,v,h1,_⟩ | ⟨d,hdd,hg,h⟩ | ⟨d,f,vs,h1,hdd,hg,hx,h⟩ | ⟨d,v,w',h1,hdd,hg,hx,hS',h⟩ | ⟨w',h1,hdd,hg,hx,hS',h⟩
 · cases h1
 · rw [if_neg (by rw [jC ha hg];exact Bool.false_ne_true),hdd]
   exact ⟨vJ,hS,hR _ _ _ (ha.put (hd d hdd) _) hS h⟩
 · rw [if_pos (jC ha hg)]
   refine ⟨vJ,?_⟩
   rw [Al (hx _ ha.cons) (fun d hd=>by cases hd),Oper.uponIn_enter]
   refine ⟨FP,Nz.2 (Calls.mono h fun e w' he=>?_)⟩
   obtain ⟨v,rfl,hS',h⟩:=he
   rw [hdd]
   exact ⟨hS',hR _ _ _ (ha.put (hd d hdd) _) hS' h⟩
 · rw [if_pos (jC ha hg)]
   refine ⟨vJ,?_⟩
   rw [Al (hx _ ha.cons) (fun d hd=>by cases hd),Oper.uponIn_value,hdd]
   exact ⟨hS',hR _ _ _ (ha.put (hd d hdd) _) hS' h⟩
 · rw [if_pos (jC ha hg)]
   refine ⟨vJ,?_⟩
   rw [Al (hx _ ha.cons) (fun d hd=>by cases hd),Oper.uponIn_skip,hdd]
   exact ⟨hS',hR _ _ _ ha hS' h⟩
def VD (P:Program) (L:List Oper) (K:List (Nat × Value)→World→Prop):List (Bool × Nat × Nat)→List (Nat × Value)→World→Prop
 | [],l,w=>K l w
 | (k,i,m)::r,l,w=>dO P L (fun _=>True) (VD P L K r) ((k,i,m)::[]) l w ∨
  ∃ o d q fn tmps assign body,nth L i=some o∧o.dst=some d∧gd L l o.guard=some true∧(∀ ρ,Cons ρ l→(execOp ρ o).run P w = .ok (.round q fn tmps assign body) w) ∧
   RoundIn Fence.wide 0 P q fn tmps assign body w (fun e w'=>∃ v,e = .returned v∧VD P L K r ((d,v)::l) w')
theorem IV {i m:Nat} {r:List (Bool × Nat × Nat)} {l:List (Nat × Value)} {w:World} (h:dO P L (fun _=>True) (VD P L K r) ((false,i,m)::[]) l w):VD P L K ((false,i,m)::r) l w:=.inl h
theorem Tk {l:List (Nat × Value)} {w:World} (h:K l w):VD P L K [] l w:=h
theorem Cr (hd:∀ i o d,nth L i=some o→o.dst=some d→d<n) :
  ∀ (rest pre:List Oper) (l:List (Nat × Value)) (w:World) (a:Act),L=pre++rest→Ag n ds a l→VD P L (fun l w=>∀ a,Ag n ds a l→Q .normal a w) (idp pre.length rest) l w→wpListIn (WF ro) 0 P L.toArray Q rest a w
 | [],pre,l,w,a,_,ha,h=>h a ha
 | o :: rest,pre,l,w,a,hL,ha,h=>by
  have hoi:=Ny hL
  have hL':L=(pre++[o])++rest:=by rw [hL];simp
  have hlen:(pre++[o]).length=pre.length+1:=by simp
  have hop:L.toArray[pre.length]?=some o:=by rw [List.getElem?_toArray,← p9];exact hoi
  rcases h with h | ⟨o',d,q,fn,tmps,assign,body,ho',hdd,hg,hx,h⟩
  · have h1:=Yz (ro:=ro) (k:=false) (m:=0) (Q:=Q) (S:=fun _=>True) (R:=fun a w=>wpListIn (WF ro) 0 P L.toArray Q rest a w) (hd _ o · hoi) hoi ha trivial h
     (fun a l w ha hS h=>Cr hd rest (pre++[o]) l w a hL' ha (by rw [hlen];exact h))
    unfold wpOpIn at h1
    rw [hop] at h1
    dsimp only at h1
    unfold wpListIn
    by_cases hw:Region.wanted o (yielded L.toArray a.tmps)=true
    · rw [if_pos hw] at h1 ⊢
      exact Oper.wpIn_mono (fun a w h=>h.2) h1
    · rw [if_neg hw] at h1 ⊢
      exact ⟨h1.1,h1.2.2⟩
  · obtain rfl:o=o':=Option.some.inj (hoi.symm.trans ho')
    unfold wpListIn
    rw [if_pos (jC ha hg)]
    refine ⟨vJ,?_⟩
    rw [Al (hx _ ha.cons) (fun d hd=>by cases hd),Oper.uponIn_round]
    refine ⟨FP,RoundIn.mono (show RoundIn (WF ro) 0 P q fn tmps assign body w _ from h) fun e w' he=>?_⟩
    obtain ⟨v,rfl,h⟩:=he
    rw [hdd]
    exact Cr hd rest (pre++[o]) _ w' _ hL' (ha.put (hd _ _ _ hoi hdd) _) (by rw [hlen];exact h)
theorem FQ {cs:List Code} {id:Nat} {l:List (Nat × Value)} {w:World} (hk:vI n L=true)
  (h:VD P L (VI P Q ro n ds cs) (idp 0 L) l w):VI P Q ro n ds (.region id L.toArray false::cs) l w:=fun a ha =>
 wpIn_region_list (by simpa using Cr (Q:=KsI P ro Q cs) (ji hk) L [] l w a rfl ha h)
theorem FR:∀ (r:List (Bool × Nat × Nat)) (l:List (Nat × Value)) (w:World),(∀ x∈r,x.1=false)→dO P L (fun _=>True) K r l w→VD P L K r l w
 | [],l,w,_,h=>h
 | (k,i,m)::r,l,w,hr,h=>by
  have hr':∀ x∈r,x.1=false:=fun x hx=>hr x (List.mem_cons_of_mem _ hx)
  exact .inl (oC (fun l w h=>FR r l w hr' h) ((k,i,m)::[]) l w (Le h))
theorem JK:∀ (l:List Oper) (i:Nat),∀ x∈idp i l,x.1=false
 | [],_,x,h=>by cases h
 | _::l,i,x,h=>by
  unfold idp at h
  rcases List.mem_cons.1 h with rfl | h
  · rfl
  · exact JK l (i+1) x h
theorem iW {cs:List Code} {id:Nat} {l:List (Nat × Value)} {w:World} (hk:vI n L=true)
 (h:dO P L (fun _=>True) (VI P Q ro n ds cs) (idp 0 L) l w):VI P Q ro n ds (.region id L.toArray false::cs) l w:=FQ hk (FR _ _ _ (JK _ _) h)
theorem Jv {cs:List Code} {id:Nat} {l:List (Nat × Value)} {w:World} (hk:vI n L=true)
 (h : VD P L (V P Q n ds cs) (idp 0 L) l w):V P Q n ds (.region id L.toArray false::cs) l w:=TM (FQ hk (by
  have mono:∀ {K K':List (Nat × Value)→World→Prop} (hK:∀ l w,K l w→K' l w) (r:List (Bool × Nat × Nat)) (l:List (Nat × Value)) (w:World),VD P L K r l w→VD P L K' r l w:=by
   intro K K' hK r
   induction r with
   | nil=>exact fun l w h=>hK l w h
   | cons x r ih =>
    obtain ⟨k,i,m⟩:=x
    intro l w h
    rcases h with h | ⟨o,d,q,fn,tmps,assign,body,ho,hdd,hg,hx,h⟩
    · exact .inl (oC (fun l w h=>ih l w h) _ l w h)
    · exact .inr ⟨o,d,q,fn,tmps,assign,body,ho,hdd,hg,hx,RoundIn.mono h fun e w' he=>by obtain ⟨v,he,h⟩:=he;exact ⟨v,he,ih _ _ h⟩⟩
  exact mono (fun l w h=>Lf h) _ _ _ h))
theorem Tj {i m d:Nat} {o:Oper} {r:List (Bool × Nat × Nat)} {l:List (Nat × Value)} {w:World} {t:Operand} {xs:List Operand} {ats:Array TypeId} {vs:List Value} {q:Nat} {rec:Loop}
 (ho:nth L i=some o) (hop:o.op = .call { callee:=.value t,args:=xs.toArray,argTypes:=ats }) (hd:o.dst=some d) (hg:gd L l o.guard=some true)
 (ht:dF l t=some (.func (.yield q) #[] #[])) (hx:xW l xs=some vs) (hrec:w.heap[q]?=some (.loop rec)) (hs:vs.length=rec.params.size)
 (h:RoundIn Fence.wide 0 P q rec.fn ((rec.params.zip vs.toArray).foldl (fun tmps (t,a)=>tmps.setIfInBounds t a) rec.tmps) rec.assign rec.body w (fun e w'=>∃ v,e = .returned v∧VD P L K r ((d,v)::l) w')) :
 VD P L K ((false,i,m)::r) l w:=.inr ⟨o,d,q,rec.fn,_,rec.assign,rec.body,ho,hd,hg,fun ρ hρ=>by
  unfold execOp
  rw [hop]
  show (resolve ρ _ _ >>= fun d=>invoke d.target d.args).run P w=_
  unfold resolve
  show (Deferred.ofValue (ρ t) (xs.toArray.map ρ) >>= fun d=>invoke d.target d.args).run P w=_
  rw [hρ.dF ht]
  show (Instr.yield q ((#[]++xs.toArray.map ρ)++#[])).run P w=_
  have e:(#[]++xs.toArray.map ρ)++#[]=vs.toArray:=by rw [← hρ.xW hx];simp
  rw [e]
  exact run_yield hrec (by simpa using hs),h⟩
end
section
variable {P:Program} {Q:Exit→Act→World→Prop} {n:Nat} {ds:List Deferred} {cs:List Code} {l:List (Nat × Value)} {w:World}
theorem Fy {q fn:Nat} {tmps:Array Value} {assign body:Code} {R:Ending→World→Prop} (hA:Ag n [] { tmps:=tmps,defers:=[] } l)
  (h:VI P (Exit.then (fun a w=>∃ l' w2,Ag n [] a l'∧(Instr.beginRound q).run P w = .ok () w2∧VI P (roundPost P q R) (some q) n [] [body] l' w2) (fun _ _ _=>False)) (some q) n [] [assign] l w):RoundIn Fence.wide 0 P q fn tmps assign body w R:=by
 refine roundIn_of_wpIn trivial ?_
 refine Code.wpIn_mono (fun e a w h=>?_) (h _ hA)
 cases e with
 | normal =>
  obtain ⟨l',w2,ha,hb,hv⟩:=h
  exact ⟨w2,hb,hv a ha⟩
 | _=>exact h
theorem KO {g:Operand} {ps:Array Tmp} {assign body:Code} {gf:FuncId} {lb:List Value} (hg:dF l g=some (.func (.func gf) #[] lb.toArray)) (hen:∀ (u:Array Value) X,(callFunc gf u).run P X = .ok (.enter gf u) X)
  (h : ∀ (fn:FuncId) (tmps:Array Value) (rec:Loop),rec={ state:=.ready,pending:=none,fn:=fn,tmps:=tmps,params:=ps,assign:=assign,body:=body,defers:=w.heap.size }→Ag n ds { tmps:=tmps,defers:=ds } l →
   Calls P gf (Value.func (.yield (w.heap.size+1)) #[] #[]::lb).toArray ((w.alloc (.deferred (some []))).alloc (.loop rec)) fun e w3=>∃ v r3,e = .returned v∧w3.heap[w.heap.size+1]?=some (.loop r3)∧r3.state≠.busy ∧
    (match r3.pending with
     | none=>V P Q n ({ target:=.collected w.heap.size,args:=#[] }::ds) cs l (w3.putObj (w.heap.size+1) (.loop { r3 with state:=.exhausted }))
     | some c=>V P Q n ({ target:=.collected w.heap.size,args:=#[] }::ds) (c::cs) l (w3.putObj (w.heap.size+1) (.loop { r3 with state:=.exhausted })))) :
  V P Q n ds (.rangeFunc g ps assign body::cs) l w:=TM fun a ha=>by
 refine wpIn_rangeFunc (n:=0) fun fn _=>?_
 have hA:Ag n ds { tmps:=a.tmps,defers:=ds } l:=⟨ha.size,rfl,ha.look⟩
 have hc:=h fn a.tmps _ rfl hA
 have he:=run_enterLoop_outer (P:=P) (w:=w) fn a.tmps ps assign body
 generalize (w.alloc (.deferred (some []))).alloc (.loop { state:=.ready,pending:=none,fn:=fn,tmps:=a.tmps,params:=ps,assign:=assign,body:=body,defers:=w.heap.size })=w1 at hc he
 refine ⟨w.heap.size+1,_,w1,{ target:=.fn (.func gf) lb.toArray,args:=#[.func (.yield (w.heap.size+1)) #[] #[]] },w1,gf,(Value.func (.yield (w.heap.size+1)) #[] #[]::lb).toArray,w1,he,?_,fun _ _=>trivial,?_,FP (ro:=none),?_⟩
 · simp only [resolve,ha.cons.dF hg]
   simp [go_sem]
 · have:=hen (Value.func (.yield (w.heap.size+1)) #[] #[]::lb).toArray
   simpa [invoke,go_sem] using this w1
 · refine Nz.2 (Calls.mono hc fun e w3 he=>?_)
   obtain ⟨v,r3,rfl,hl,hb,hq⟩:=he
   refine ⟨r3.pending,_,run_endLoop hl hb,?_⟩
   have hag:Ag n ({ target:=.collected w.heap.size,args:=#[] }::ds) { a with defers:=[{ target:=.collected w.heap.size,args:=#[] }]++a.defers } l:=⟨ha.size,by simp [ha.defers],ha.look⟩
   cases hp:r3.pending with
   | none=>rw [hp] at hq;exact Lf hq _ hag
   | some c=>rw [hp] at hq;exact Lf hq _ hag
def DW (P:Program) (fn:Func) (R:Ending→World→Prop):Exit→Act→World→Prop
 | .ret,a,w=>bodyPostM Fence.wide 0 P fn R .ret a w
 | .normal,a,w=>bodyPostM Fence.wide 0 P fn R .normal a w
 | _,_,_=>False
theorem Ck {f:FuncId} {fn:Func} {c:Code} {vs:List Value} {R:Ending→World→Prop} (hf:P.funcs[f]?=some fn) (hb:fn.body=some c) (hn:Nat.beq fn.ntmps n=true) (hle:Nat.ble vs.length n=true)
  (h:V P (DW P fn R) n [] [c] (Yy 0 vs) w):Calls P f vs.toArray w R:=by
 have hn':vs.length≤n:=Nat.le_of_ble_eq_true hle
 have hn2:fn.ntmps=n:=(beq_iff _ _).1 hn
 have h1:c.wp P (bodyPostM Fence.wide 0 P fn R) { tmps:=vs.toArray++Array.replicate (fn.ntmps-vs.toArray.size) undef,defers:=[] } w:=by
  refine wp_mono (h _ ⟨?_,rfl,fun t v ht=>?_⟩) fun e a w hq=>?_
  · rw [hn2];simp;omega
  · obtain ⟨_,hj⟩:=Cq ht
    rw [Nat.sub_zero] at hj
    have hlt:t<vs.length:=(List.getElem?_eq_some_iff.1 hj).1
    show (vs.toArray++Array.replicate (fn.ntmps-vs.toArray.size) undef)[t]?=some v
    rw [Array.getElem?_append_left (by simpa using hlt)]
    simpa using hj
  · cases e with
    | normal=>exact hq
    | ret=>exact hq
    | _=>exact hq.elim
 exact callsIn_wide.1 (callsIn_of_wp_marks hf hb trivial (wpIn_wide.2 h1) rfl)
theorem NA {fn:Func} {R:Ending→World→Prop} {D:Nat} {l:List (Nat × Value)} {w:World} {v:Value} (hK:w.heap[D]?=some (.deferred (some [])))
  (hr:∀ a,Ag n [{ target:=.collected D,args:=#[] }] a l→(results fn a.tmps).run P (w.putObj D (.deferred none)) = .ok v (w.putObj D (.deferred none))) (h:R (.returned v) (w.putObj D (.deferred none))) :
  ∀ a,Ag n [{ target:=.collected D,args:=#[] }] a l→DW P fn R .ret a w:=fun a ha=>by
 show LeavesInM Fence.wide 0 P fn a.tmps R a.defers .returning w
 rw [ha.defers]
 exact ⟨by simp,.inl ⟨D,_,rfl,run_takeDeferred hK,v,hr a ha,h⟩⟩
theorem vE {fn:Func} {R:Ending→World→Prop} {D:Nat} {l:List (Nat × Value)} {w:World} {v:Value} (hK:w.heap[D]?=some (.deferred (some [])))
 (hr:∀ a,Ag n [{ target:=.collected D,args:=#[] }] a l→(results fn a.tmps).run P (w.putObj D (.deferred none)) = .ok v (w.putObj D (.deferred none))) (h:R (.returned v) (w.putObj D (.deferred none))) :
 V P (DW P fn R) n [{ target:=.collected D,args:=#[] }] (.ret::cs) l w:=zY (NA hK hr h)
theorem IY {fn:Func} {R:Ending→World→Prop} {D id:Nat} {cs':List Code} {l:List (Nat × Value)} {w:World} {v:Value} (hK:w.heap[D]?=some (.deferred (some [])))
 (hr:∀ a,Ag n [{ target:=.collected D,args:=#[] }] a l→(results fn a.tmps).run P (w.putObj D (.deferred none)) = .ok v (w.putObj D (.deferred none))) (h:R (.returned v) (w.putObj D (.deferred none))) :
 V P (Exit.inBlock id (Ks P (DW P fn R) cs)) n [{ target:=.collected D,args:=#[] }] (.ret::cs') l w:=zY fun a ha=>uf (cs:=cs) (NA hK hr h a ha)
theorem VE (p:Tmp) (v:Value) (tmps:Array Value):(#[p].zip #[v]).foldl (fun t (p,v)=>t.setIfInBounds p v) tmps=tmps.setIfInBounds p v:=by simp
theorem Ag.round {tmps:Array Value} {l:List (Nat × Value)} {p:Tmp} (h:Ag n [] { tmps:=tmps,defers:=[] } l) (hp:p<n) (v:Value):Ag n [] { tmps:=(#[p].zip [v].toArray).foldl (fun t (p,v)=>t.setIfInBounds p v) tmps,defers:=[] } ((p,v)::l):=by
 rw [show [v].toArray=#[v] from rfl,VE]
 exact h.put hp v
end
end Go.Proofs.YtfhcmggpojhegaaGreatDoor.Pl
/- Small laws for the printer of walks. -/
namespace Go.Proofs.YtfhcmggpojhegaaGreatDoor.Pl
open Go Go.RowKit
set_option linter.all false
set_option maxRecDepth 100000
set_option maxHeartbeats 8000000
/-! Small laws for the walk's printer (sx.py). -/
theorem a64 {a b:Nat} {x y:Int} (hx:x=(a:Int)) (hy:y=(b:Int)) (h:a+b≤9223372036854775807):IntKind.i64.wrap (x+y)=((a+b:Nat):Int):=by
 subst hx hy;rw [Ep (by omega) (by omega)];omega
theorem e_t {a b:Int} (h:a=b):(a==b)=true:=beq_iff_eq.2 h
theorem sJ {k:IntKind} {a:Nat} {x:Int} (hx:x=(a:Int)) (hw:k.wrap (a:Int)=(a:Int)):k.wrap x=((a:Nat):Int):=by subst hx;exact hw
section
variable {P:Program} {T:TypeId} {x y:Operand} {a b c:Nat} {za zb:Int}
end
section
variable {P:Program} {T:TypeId} {x y:Operand}
end
section
variable {P:Program} {n:Nat} {cs:List Code} {l:List (Nat × Value)} {w:World} {fn:Func} {R:Ending→World→Prop} {t t2 t3:Tmp} {N N2 N3:Nat} {ty ty2 ty3:TypeId} {v v2 v3:Value}
end
end Go.Proofs.YtfhcmggpojhegaaGreatDoor.Pl
