/- Ranges over functions, walked with the frame as a list of what is known. -/
import Derived.Test.YtgcieamfidoaoaaGreatDoorBaa
import Derived.RangeFuncSeq
import Derived.RangeFuncLeaves
import Derived.OrdersIn
import Derived.TacticsIn
set_option linter.all false
set_option maxHeartbeats 8000000
namespace Go.Proofs.YtgcieamfidoaoaaGreatDoor.Pl
open Go
set_option maxRecDepth 100000
abbrev WF (ro:Option Nat):Fence:={ Fence.wide with round:=ro }
theorem Jc {ro:Option Nat} {n:Nat} {P:Program} {f:FuncId} {args:Array Value} {w:World} {R:Ending→World→Prop}:CallsIn (WF ro) n P f args w R↔Calls P f args w R:=callsIn_wide (n:=n)
def Vn (P:Program) (ro:Option Nat) (Q:Exit→Act→World→Prop):List Code→Exit→Act→World→Prop
 | []=>Q
 | c::cs=>Exit.then (c.wpIn (WF ro) 0 P (Vn P ro Q cs)) (Vn P ro Q cs)
def VI (P:Program) (Q:Exit→Act→World→Prop) (ro:Option Nat) (n:Nat) (ds:List Deferred) (cs:List Code) (l:List (Nat × Value)) (w:World):Prop :=
 ∀ a,Ag n ds a l→Vn P ro Q cs .normal a w
theorem CP {P:Program} {Q:Exit→Act→World→Prop}:∀ (cs:List Code) (e:Exit) (a:Act) (w:World),Vn P none Q cs e a w↔Ks P Q cs e a w
 | [],e,a,w=>Iff.rfl
 | c::cs,e,a,w=>by
  have ih:=CP (P:=P) (Q:=Q) cs
  cases e with
  | normal =>
   show c.wpIn Fence.wide 0 P (Vn P none Q cs) a w↔c.wp P (Ks P Q cs) a w
   rw [wpIn_wide]
   exact ⟨fun h=>wp_mono h fun e a w h=>(ih e a w).1 h,fun h=>wp_mono h fun e a w h=>(ih e a w).2 h⟩
  | _=>exact ih _ a w
section
variable {P:Program} {Q:Exit→Act→World→Prop} {ro:Option Nat} {n:Nat} {ds:List Deferred} {cs:List Code} {l:List (Nat × Value)} {w:World} {x y:Code}
theorem F5 (h:V P Q n ds cs l w):VI P Q none n ds cs l w:=fun a ha=>(CP _ _ _ _).2 (h a ha)
theorem ME (h:VI P Q none n ds cs l w):V P Q n ds cs l w:=fun a ha=>(CP _ _ _ _).1 (h a ha)
theorem MF:∀ {cs:List Code} {a:Act} {w:World},Q .ret a w→Vn P ro Q cs .ret a w
 | [],_,_,h=>h
 | _::cs,_,_,h=>MF (cs:=cs) h
theorem kZ (h:VI P Q ro n ds (x::y::cs) l w):VI P Q ro n ds (.seq x y::cs) l w:=fun a ha=>wpIn_seq (h a ha)
theorem Mq (h:VI P Q ro n ds cs l w):VI P Q ro n ds (.skip::cs) l w:=fun a ha=>wpIn_skip (h a ha)
theorem U8 {c:Operand} (hc:dK l c=some (.bool true)) (h:VI P Q ro n ds (x::cs) l w):VI P Q ro n ds (.cond c x y::cs) l w:=fun a ha=>wpIn_cond_true (ha.cons.dK hc) (h a ha)
theorem IV {c:Operand} (hc:dK l c=some (.bool false)) (h:VI P Q ro n ds (y::cs) l w):VI P Q ro n ds (.cond c x y::cs) l w:=fun a ha=>wpIn_cond_false (ha.cons.dK hc) (h a ha)
theorem YZ (h:∀ a,Ag n ds a l→Q .ret a w):VI P Q ro n ds (.ret::cs) l w:=fun a ha=>wpIn_ret (MF (h a ha))
theorem KA (h:∀ a,Ag n ds a l→Q .normal a w):VI P Q ro n ds [] l w:=h
theorem Rm {id:Nat} {b:Code} (h:VI P (Exit.inBlock id (Vn P ro Q cs)) ro n ds [b] l w):VI P Q ro n ds (.block id b::cs) l w:=fun a ha=>wpIn_block (h a ha)
theorem Ac {id:Nat} (h:VI P Q ro n ds cs l w):VI P (Exit.inBlock id (Vn P ro Q cs)) ro n ds [] l w:=fun a ha=>h a ha
theorem MG {id:Nat}:∀ {cs:List Code} {a:Act} {w:World},Q (.exit id) a w→Ks P Q cs (.exit id) a w
 | [],_,_,h=>h
 | _::cs,_,_,h=>MG (cs:=cs) h
theorem Cr {id:Nat} {cs':List Code} (h:V P Q n ds cs l w):V P (Exit.inBlock id (Ks P Q cs)) n ds (.exit id::cs') l w:=fun a ha=>wp_exit (by
 refine MG ?_
 show (if id=id then Ks P Q cs .normal a w else _)
 rw [if_pos rfl]
 exact h a ha)
def OG (P:Program) (Q:Exit→Act→World→Prop) (n:Nat) (ds:List Deferred) (cs:List Code) (c:Code):Nat→List (Nat × Value)→World→Prop
 | 0,l,w=>V P (Exit.then (fun _ _=>False) (Ks P Q cs)) n ds [c] l w
 | k+1,l,w=>V P (Exit.then (fun a' w'=>∃ l',Ag n ds a' l'∧OG P Q n ds cs c k l' w') (Ks P Q cs)) n ds [c] l w
theorem dG {id:Nat} {a:Act} (h:Q .ret a w):Exit.inBlock id Q .ret a w:=h
theorem sN {N:Act→World→Prop} {a:Act} (h:Q .ret a w):Exit.then N Q .ret a w:=h
theorem yl {ρ:Operand→Value} {o:Oper} {w w':World} {x:Next} (h:(execOp ρ o).run P w = .ok x w') (hx:∀ d,x≠.defer d):(o.semAt ro ρ).run P w = .ok x w':=by
 by_cases hd:∃ c,o.op = .defer c
 · obtain ⟨c,hc⟩:=hd
   exfalso
   unfold execOp at h
   rw [hc] at h
   simp only [Sem.run_bind] at h
   revert h
   generalize (resolve ρ _ _).run P w=r
   intro h
   cases r with
   | ok d w1 =>
    simp only [Result.andThen] at h
    revert h
    first
     | (intro h;simp only [Sem.run_pure,Result.ok.injEq] at h;exact hx _ h.1.symm)
     | skip
   | halt e w1=>simp [Result.andThen] at h
 · rw [Oper.semAt_eq _ _ _ (fun c hc=>hd ⟨c,hc⟩)];exact h
end
section
variable {P:Program} {L:List Oper} {S:World→Prop} {K:List (Nat × Value)→World→Prop} {Q:Exit→Act→World→Prop} {ro:Option Nat} {n f:Nat} {ds:List Deferred}
theorem tY {o:Oper} {w:World} {ρ:Operand→Value}:∀ f,o.about P w ρ=some f→(WF ro).fn f:=fun _ _=>trivial
theorem CQ {m:Nat}:(WF ro).depth.isSome=true→1≤m:=fun h=>by cases h
theorem RN {k:Bool} {i m:Nat} {l:List (Nat × Value)} {w:World} {a:Act} {o:Oper} {R:Act→World→Prop} (hd:∀ d,o.dst=some d→d<n) (ho:nth L i=some o) (ha:Ag n ds a l) (hS:S w)
  (h:fF P L S K ((false,i,m)::[]) l w) (hR:∀ a l w,Ag n ds a l→S w→K l w→R a w):wpOpIn (WF ro) 0 P L.toArray Q i (fun a' w'=>S w'∧R a' w') a w:=by
 obtain ⟨o',ho',h⟩:=h
 obtain rfl:o=o':=Option.some.inj (ho.symm.trans ho')
 have hoi:L.toArray[i]?=some o:=by rw [List.getElem?_toArray,← qd];exact ho
 unfold wpOpIn
 simp only [hoi]
 rcases h with ⟨d,v,h1,_⟩ | ⟨d,hdd,hg,h⟩ | ⟨d,f,vs,h1,hdd,hg,hx,h⟩ | ⟨d,v,w',h1,hdd,hg,hx,hS',h⟩ | ⟨w',h1,hdd,hg,hx,hS',h⟩
 · cases h1
 · rw [if_neg (by rw [jD ha hg];exact Bool.false_ne_true),hdd]
   exact ⟨tY,hS,hR _ _ _ (ha.put (hd d hdd) _) hS h⟩
 · rw [if_pos (jD ha hg)]
   refine ⟨tY,?_⟩
   rw [yl (hx _ ha.cons) (fun d hd=>by cases hd),Oper.uponIn_enter]
   refine ⟨CQ,Jc.2 (Calls.mono h fun e w' he=>?_)⟩
   obtain ⟨v,rfl,hS',h⟩:=he
   rw [hdd]
   exact ⟨hS',hR _ _ _ (ha.put (hd d hdd) _) hS' h⟩
 · rw [if_pos (jD ha hg)]
   refine ⟨tY,?_⟩
   rw [yl (hx _ ha.cons) (fun d hd=>by cases hd),Oper.uponIn_value,hdd]
   exact ⟨hS',hR _ _ _ (ha.put (hd d hdd) _) hS' h⟩
 · rw [if_pos (jD ha hg)]
   refine ⟨tY,?_⟩
   rw [yl (hx _ ha.cons) (fun d hd=>by cases hd),Oper.uponIn_skip,hdd]
   exact ⟨hS',hR _ _ _ ha hS' h⟩
def OH (P:Program) (L:List Oper) (K:List (Nat × Value)→World→Prop):List (Bool × Nat × Nat)→List (Nat × Value)→World→Prop
 | [],l,w=>K l w
 | (k,i,m)::r,l,w=>fF P L (fun _=>True) (OH P L K r) ((k,i,m)::[]) l w ∨
  ∃ o d q fn tmps assign body,nth L i=some o∧o.dst=some d∧gd L l o.guard=some true∧(∀ ρ,Cons ρ l→(execOp ρ o).run P w = .ok (.round q fn tmps assign body) w) ∧
   RoundIn Fence.wide 0 P q fn tmps assign body w (fun e w'=>∃ v,e = .returned v∧OH P L K r ((d,v)::l) w')
theorem DY {i m:Nat} {r:List (Bool × Nat × Nat)} {l:List (Nat × Value)} {w:World} (h:fF P L (fun _=>True) (OH P L K r) ((false,i,m)::[]) l w):OH P L K ((false,i,m)::r) l w:=.inl h
theorem Ml {l:List (Nat × Value)} {w:World} (h:K l w):OH P L K [] l w:=h
theorem zy (hd:∀ i o d,nth L i=some o→o.dst=some d→d<n) :
  ∀ (rest pre:List Oper) (l:List (Nat × Value)) (w:World) (a:Act),L=pre++rest→Ag n ds a l→OH P L (fun l w=>∀ a,Ag n ds a l→Q .normal a w) (Py pre.length rest) l w→wpListIn (WF ro) 0 P L.toArray Q rest a w
 | [],pre,l,w,a,_,ha,h=>h a ha
 | o :: rest,pre,l,w,a,hL,ha,h=>by
  have hoi:=Ja hL
  have hL':L=(pre++[o])++rest:=by rw [hL];simp
  have hlen:(pre++[o]).length=pre.length+1:=by simp
  have hop:L.toArray[pre.length]?=some o:=by rw [List.getElem?_toArray,← qd];exact hoi
  rcases h with h | ⟨o',d,q,fn,tmps,assign,body,ho',hdd,hg,hx,h⟩
  · have h1:=RN (ro:=ro) (k:=false) (m:=0) (Q:=Q) (S:=fun _=>True) (R:=fun a w=>wpListIn (WF ro) 0 P L.toArray Q rest a w) (hd _ o · hoi) hoi ha trivial h
     (fun a l w ha hS h=>zy hd rest (pre++[o]) l w a hL' ha (by rw [hlen];exact h))
    unfold wpOpIn at h1
    rw [hop] at h1
    dsimp only at h1
    unfold wpListIn
    by_cases hw:Region.wanted o (yielded L.toArray a.tmps)=true
    · rw [if_pos hw] at h1 ⊢
      exact Oper.wpIn_mono (fun a w h=>h.2) h1
    · rw [if_neg hw] at h1 ⊢
      exact ⟨h1.1,h1.2.2⟩
  · obtain rfl:o=o':=Option.some.inj (hoi.symm.trans ho')
    unfold wpListIn
    rw [if_pos (jD ha hg)]
    refine ⟨tY,?_⟩
    rw [yl (hx _ ha.cons) (fun d hd=>by cases hd),Oper.uponIn_round]
    refine ⟨CQ,RoundIn.mono (show RoundIn (WF ro) 0 P q fn tmps assign body w _ from h) fun e w' he=>?_⟩
    obtain ⟨v,rfl,h⟩:=he
    rw [hdd]
    exact zy hd rest (pre++[o]) _ w' _ hL' (ha.put (hd _ _ _ hoi hdd) _) (by rw [hlen];exact h)
theorem CR {cs:List Code} {id:Nat} {l:List (Nat × Value)} {w:World} (hk:rZ n L=true)
  (h:OH P L (VI P Q ro n ds cs) (Py 0 L) l w):VI P Q ro n ds (.region id L.toArray false::cs) l w:=fun a ha =>
 wpIn_region_list (by simpa using zy (Q:=Vn P ro Q cs) (lm hk) L [] l w a rfl ha h)
theorem CS:∀ (r:List (Bool × Nat × Nat)) (l:List (Nat × Value)) (w:World),(∀ x∈r,x.1=false)→fF P L (fun _=>True) K r l w→OH P L K r l w
 | [],l,w,_,h=>h
 | (k,i,m)::r,l,w,hr,h=>by
  have hr':∀ x∈r,x.1=false:=fun x hx=>hr x (List.mem_cons_of_mem _ hx)
  exact .inl (nP (fun l w h=>CS r l w hr' h) ((k,i,m)::[]) l w (FY h))
theorem EA:∀ (l:List Oper) (i:Nat),∀ x∈Py i l,x.1=false
 | [],_,x,h=>by cases h
 | _::l,i,x,h=>by
  unfold Py at h
  rcases List.mem_cons.1 h with rfl | h
  · rfl
  · exact EA l (i+1) x h
theorem lN {cs:List Code} {id:Nat} {l:List (Nat × Value)} {w:World} (hk:rZ n L=true)
 (h:fF P L (fun _=>True) (VI P Q ro n ds cs) (Py 0 L) l w):VI P Q ro n ds (.region id L.toArray false::cs) l w:=CR hk (CS _ _ _ (EA _ _) h)
theorem Eu {cs:List Code} {id:Nat} {l:List (Nat × Value)} {w:World} (hk:rZ n L=true)
 (h : OH P L (V P Q n ds cs) (Py 0 L) l w):V P Q n ds (.region id L.toArray false::cs) l w:=ME (CR hk (by
  have mono:∀ {K K':List (Nat × Value)→World→Prop} (hK:∀ l w,K l w→K' l w) (r:List (Bool × Nat × Nat)) (l:List (Nat × Value)) (w:World),OH P L K r l w→OH P L K' r l w:=by
   intro K K' hK r
   induction r with
   | nil=>exact fun l w h=>hK l w h
   | cons x r ih =>
    obtain ⟨k,i,m⟩:=x
    intro l w h
    rcases h with h | ⟨o,d,q,fn,tmps,assign,body,ho,hdd,hg,hx,h⟩
    · exact .inl (nP (fun l w h=>ih l w h) _ l w h)
    · exact .inr ⟨o,d,q,fn,tmps,assign,body,ho,hdd,hg,hx,RoundIn.mono h fun e w' he=>by obtain ⟨v,he,h⟩:=he;exact ⟨v,he,ih _ _ h⟩⟩
  exact mono (fun l w h=>F5 h) _ _ _ h))
theorem Mk {i m d:Nat} {o:Oper} {r:List (Bool × Nat × Nat)} {l:List (Nat × Value)} {w:World} {t:Operand} {xs:List Operand} {ats:Array TypeId} {vs:List Value} {q:Nat} {rec:Loop}
 (ho:nth L i=some o) (hop:o.op = .call { callee:=.value t,args:=xs.toArray,argTypes:=ats }) (hd:o.dst=some d) (hg:gd L l o.guard=some true)
 (ht:dK l t=some (.func (.yield q) #[] #[])) (hx:sw l xs=some vs) (hrec:w.heap[q]?=some (.loop rec)) (hs:vs.length=rec.params.size)
 (h:RoundIn Fence.wide 0 P q rec.fn ((rec.params.zip vs.toArray).foldl (fun tmps (t,a)=>tmps.setIfInBounds t a) rec.tmps) rec.assign rec.body w (fun e w'=>∃ v,e = .returned v∧OH P L K r ((d,v)::l) w')) :
 OH P L K ((false,i,m)::r) l w:=.inr ⟨o,d,q,rec.fn,_,rec.assign,rec.body,ho,hd,hg,fun ρ hρ=>by
  unfold execOp
  rw [hop]
  show (resolve ρ _ _ >>= fun d=>invoke d.target d.args).run P w=_
  unfold resolve
  show (Deferred.ofValue (ρ t) (xs.toArray.map ρ) >>= fun d=>invoke d.target d.args).run P w=_
  rw [hρ.dK ht]
  show (Instr.yield q ((#[]++xs.toArray.map ρ)++#[])).run P w=_
  have e:(#[]++xs.toArray.map ρ)++#[]=vs.toArray:=by rw [← hρ.sw hx];simp
  rw [e]
  exact run_yield hrec (by simpa using hs),h⟩
end
section
variable {P:Program} {Q:Exit→Act→World→Prop} {n:Nat} {ds:List Deferred} {cs:List Code} {l:List (Nat × Value)} {w:World}
theorem Rl {q fn:Nat} {tmps:Array Value} {assign body:Code} {R:Ending→World→Prop} (hA:Ag n [] { tmps:=tmps,defers:=[] } l)
  (h:VI P (Exit.then (fun a w=>∃ l' w2,Ag n [] a l'∧(Instr.beginRound q).run P w = .ok () w2∧VI P (roundPost P q R) (some q) n [] [body] l' w2) (fun _ _ _=>False)) (some q) n [] [assign] l w):RoundIn Fence.wide 0 P q fn tmps assign body w R:=by
 refine roundIn_of_wpIn trivial ?_
 refine Code.wpIn_mono (fun e a w h=>?_) (h _ hA)
 cases e with
 | normal =>
  obtain ⟨l',w2,ha,hb,hv⟩:=h
  exact ⟨w2,hb,hv a ha⟩
 | _=>exact h
theorem U7 {g:Operand} {ps:Array Tmp} {assign body:Code} {gf:FuncId} {lb:List Value} (hg:dK l g=some (.func (.func gf) #[] lb.toArray)) (hen:∀ (u:Array Value) X,(callFunc gf u).run P X = .ok (.enter gf u) X)
  (h : ∀ (fn:FuncId) (tmps:Array Value) (rec:Loop),rec={ state:=.ready,pending:=none,fn:=fn,tmps:=tmps,params:=ps,assign:=assign,body:=body,defers:=w.heap.size }→Ag n ds { tmps:=tmps,defers:=ds } l →
   Calls P gf (Value.func (.yield (w.heap.size+1)) #[] #[]::lb).toArray ((w.alloc (.deferred (some []))).alloc (.loop rec)) fun e w3=>∃ v r3,e = .returned v∧w3.heap[w.heap.size+1]?=some (.loop r3)∧r3.state≠.busy ∧
    (match r3.pending with
     | none=>V P Q n ({ target:=.collected w.heap.size,args:=#[] }::ds) cs l (w3.putObj (w.heap.size+1) (.loop { r3 with state:=.exhausted }))
     | some c=>V P Q n ({ target:=.collected w.heap.size,args:=#[] }::ds) (c::cs) l (w3.putObj (w.heap.size+1) (.loop { r3 with state:=.exhausted })))) :
  V P Q n ds (.rangeFunc g ps assign body::cs) l w:=ME fun a ha=>by
 refine wpIn_rangeFunc (n:=0) fun fn _=>?_
 have hA:Ag n ds { tmps:=a.tmps,defers:=ds } l:=⟨ha.size,rfl,ha.look⟩
 have hc:=h fn a.tmps _ rfl hA
 have he:=run_enterLoop_outer (P:=P) (w:=w) fn a.tmps ps assign body
 generalize (w.alloc (.deferred (some []))).alloc (.loop { state:=.ready,pending:=none,fn:=fn,tmps:=a.tmps,params:=ps,assign:=assign,body:=body,defers:=w.heap.size })=w1 at hc he
 refine ⟨w.heap.size+1,_,w1,{ target:=.fn (.func gf) lb.toArray,args:=#[.func (.yield (w.heap.size+1)) #[] #[]] },w1,gf,(Value.func (.yield (w.heap.size+1)) #[] #[]::lb).toArray,w1,he,?_,fun _ _=>trivial,?_,CQ (ro:=none),?_⟩
 · simp only [resolve,ha.cons.dK hg]
   simp [go_sem]
 · have:=hen (Value.func (.yield (w.heap.size+1)) #[] #[]::lb).toArray
   simpa [invoke,go_sem] using this w1
 · refine Jc.2 (Calls.mono hc fun e w3 he=>?_)
   obtain ⟨v,r3,rfl,hl,hb,hq⟩:=he
   refine ⟨r3.pending,_,run_endLoop hl hb,?_⟩
   have hag:Ag n ({ target:=.collected w.heap.size,args:=#[] }::ds) { a with defers:=[{ target:=.collected w.heap.size,args:=#[] }]++a.defers } l:=⟨ha.size,by simp [ha.defers],ha.look⟩
   cases hp:r3.pending with
   | none=>rw [hp] at hq;exact F5 hq _ hag
   | some c=>rw [hp] at hq;exact F5 hq _ hag
def MH (P:Program) (fn:Func) (R:Ending→World→Prop):Exit→Act→World→Prop
 | .ret,a,w=>bodyPostM Fence.wide 0 P fn R .ret a w
 | .normal,a,w=>bodyPostM Fence.wide 0 P fn R .normal a w
 | _,_,_=>False
theorem Oy {f:FuncId} {fn:Func} {c:Code} {vs:List Value} {R:Ending→World→Prop} (hf:P.funcs[f]?=some fn) (hb:fn.body=some c) (hn:Nat.beq fn.ntmps n=true) (hle:Nat.ble vs.length n=true)
  (h:V P (MH P fn R) n [] [c] (OD 0 vs) w):Calls P f vs.toArray w R:=by
 have hn':vs.length≤n:=Nat.le_of_ble_eq_true hle
 have hn2:fn.ntmps=n:=(beq_iff _ _).1 hn
 have h1:c.wp P (bodyPostM Fence.wide 0 P fn R) { tmps:=vs.toArray++Array.replicate (fn.ntmps-vs.toArray.size) undef,defers:=[] } w:=by
  refine wp_mono (h _ ⟨?_,rfl,fun t v ht=>?_⟩) fun e a w hq=>?_
  · rw [hn2];simp;omega
  · obtain ⟨_,hj⟩:=zx ht
    rw [Nat.sub_zero] at hj
    have hlt:t<vs.length:=(List.getElem?_eq_some_iff.1 hj).1
    show (vs.toArray++Array.replicate (fn.ntmps-vs.toArray.size) undef)[t]?=some v
    rw [Array.getElem?_append_left (by simpa using hlt)]
    simpa using hj
  · cases e with
    | normal=>exact hq
    | ret=>exact hq
    | _=>exact hq.elim
 exact callsIn_wide.1 (callsIn_of_wp_marks hf hb trivial (wpIn_wide.2 h1) rfl)
theorem Jd {fn:Func} {R:Ending→World→Prop} {D:Nat} {l:List (Nat × Value)} {w:World} {v:Value} (hK:w.heap[D]?=some (.deferred (some [])))
  (hr:∀ a,Ag n [{ target:=.collected D,args:=#[] }] a l→(results fn a.tmps).run P (w.putObj D (.deferred none)) = .ok v (w.putObj D (.deferred none))) (h:R (.returned v) (w.putObj D (.deferred none))) :
  ∀ a,Ag n [{ target:=.collected D,args:=#[] }] a l→MH P fn R .ret a w:=fun a ha=>by
 show LeavesInM Fence.wide 0 P fn a.tmps R a.defers .returning w
 rw [ha.defers]
 exact ⟨by simp,.inl ⟨D,_,rfl,run_takeDeferred hK,v,hr a ha,h⟩⟩
theorem IW {fn:Func} {R:Ending→World→Prop} {D:Nat} {l:List (Nat × Value)} {w:World} {v:Value} (hK:w.heap[D]?=some (.deferred (some [])))
 (hr:∀ a,Ag n [{ target:=.collected D,args:=#[] }] a l→(results fn a.tmps).run P (w.putObj D (.deferred none)) = .ok v (w.putObj D (.deferred none))) (h:R (.returned v) (w.putObj D (.deferred none))) :
 V P (MH P fn R) n [{ target:=.collected D,args:=#[] }] (.ret::cs) l w:=Ah (Jd hK hr h)
theorem D6 {fn:Func} {R:Ending→World→Prop} {D id:Nat} {cs':List Code} {l:List (Nat × Value)} {w:World} {v:Value} (hK:w.heap[D]?=some (.deferred (some [])))
 (hr:∀ a,Ag n [{ target:=.collected D,args:=#[] }] a l→(results fn a.tmps).run P (w.putObj D (.deferred none)) = .ok v (w.putObj D (.deferred none))) (h:R (.returned v) (w.putObj D (.deferred none))) :
 V P (Exit.inBlock id (Ks P (MH P fn R) cs)) n [{ target:=.collected D,args:=#[] }] (.ret::cs') l w:=Ah fun a ha=>eD (cs:=cs) (Jd hK hr h a ha)
theorem OI (p:Tmp) (v:Value) (tmps:Array Value):(#[p].zip #[v]).foldl (fun t (p,v)=>t.setIfInBounds p v) tmps=tmps.setIfInBounds p v:=by simp
theorem Ag.round {tmps:Array Value} {l:List (Nat × Value)} {p:Tmp} (h:Ag n [] { tmps:=tmps,defers:=[] } l) (hp:p<n) (v:Value):Ag n [] { tmps:=(#[p].zip [v].toArray).foldl (fun t (p,v)=>t.setIfInBounds p v) tmps,defers:=[] } ((p,v)::l):=by
 rw [show [v].toArray=#[v] from rfl,OI]
 exact h.put hp v
end
end Go.Proofs.YtgcieamfidoaoaaGreatDoor.Pl
/- Small laws for the printer of walks. -/
namespace Go.Proofs.YtgcieamfidoaoaaGreatDoor.Pl
open Go Go.RowKit
set_option maxRecDepth 100000
theorem e_t {a b:Int} (h:a=b):(a==b)=true:=beq_iff_eq.2 h
theorem e_f {a b:Int} (h:a≠b):(a==b)=false:=beq_false_of_ne h
end Go.Proofs.YtgcieamfidoaoaaGreatDoor.Pl
/- Values, variables and facts as the walk knows them: a tree of values over the variables of the call (boxes) and over what was found (ghosts). -/
namespace Go.Proofs.YtgcieamfidoaoaaGreatDoor.Rf
open Go Go.RowKit Go.Proofs.YtgcieamfidoaoaaGreatDoor.Pl
set_option maxRecDepth 100000
inductive SV where
 | v (x:Value)
 | p (b o:Nat)
 | c (g k:Nat)
 | a (l:List SV)
 | t (l:List SV)
 | f (fn:FuncId) (fs cap:List SV)
abbrev Env:=Nat→Nat
abbrev kR:=Nat→Nat→Value
mutual
def den (α:Env) (γ:kR):SV→Value
 | .v x=>x
 | .p b o=>.pointer (some ⟨α b,o,none⟩)
 | .c g k=>γ g k
 | .a l=>.agg (bZ α γ l).toArray
 | .t l=>.tuple (bZ α γ l).toArray
 | .f fn fs cap=>.func (.func fn) (bZ α γ fs).toArray (bZ α γ cap).toArray
def bZ (α:Env) (γ:kR):List SV→List Value
 | []=>[]
 | x::l=>den α γ x::bZ α γ l
end
mutual
def Xr (k:Nat):SV→Bool
 | .v _=>true
 | .p b _=>!(Nat.beq b k)
 | .c _ _=>true
 | .a l=>qK k l
 | .t l=>qK k l
 | .f _ fs cap=>qK k fs&&qK k cap
def qK (k:Nat):List SV→Bool
 | []=>true
 | x::l=>Xr k x&&qK k l
end
mutual
def Xu (k:Nat):SV→Bool
 | .v _=>true
 | .p _ _=>true
 | .c g _=>!(Nat.beq g k)
 | .a l=>wP k l
 | .t l=>wP k l
 | .f _ fs cap=>wP k fs&&wP k cap
def wP (k:Nat):List SV→Bool
 | []=>true
 | x::l=>Xu k x&&wP k l
end
def upd {A:Type} (α:Nat→A) (k:Nat) (N:A):Nat→A:=fun i=>if i=k then N else α i
theorem upd_same {A:Type} (α:Nat→A) (k:Nat) (N:A):upd α k N k=N:=by unfold upd;rw [if_pos rfl]
theorem upd_ne {A:Type} (α:Nat→A) {k i:Nat} (N:A) (h:i≠k):upd α k N i=α i:=by unfold upd;rw [if_neg h]
theorem Zv {b k:Nat} (h:(!(Nat.beq b k))=true):b≠k:=by
 rintro rfl
 rw [Nat.beq_refl] at h;cases h
mutual
theorem Jj {α:Env} {γ:kR} {k N:Nat}:∀ (s:SV),Xr k s=true→den (upd α k N) γ s=den α γ s
 | .v x,_=>rfl
 | .p b o,h=>by
  have h1:(!(Nat.beq b k))=true:=h
  show Value.pointer (some ⟨upd α k N b,o,none⟩)=_
  rw [upd_ne _ _ (Zv h1)];rfl
 | .c g j,_=>rfl
 | .a l,h=>by show Value.agg _=Value.agg _;rw [mY l h]
 | .t l,h=>by show Value.tuple _=Value.tuple _;rw [mY l h]
 | .f fn fs cap,h=>by
  have h1:(qK k fs&&qK k cap)=true:=h
  rw [Bool.and_eq_true] at h1
  show Value.func _ _ _=Value.func _ _ _;rw [mY fs h1.1,mY cap h1.2]
theorem mY {α:Env} {γ:kR} {k N:Nat}:∀ (l:List SV),qK k l=true→bZ (upd α k N) γ l=bZ α γ l
 | [],_=>rfl
 | x::l,h=>by
  have h1:(Xr k x&&qK k l)=true:=h
  rw [Bool.and_eq_true] at h1
  show _::_=_::_
  rw [Jj x h1.1,mY l h1.2]
end
mutual
theorem Jk {α:Env} {γ:kR} {k:Nat} {F:Nat→Value}:∀ (s:SV),Xu k s=true→den α (upd γ k F) s=den α γ s
 | .v x,_=>rfl
 | .p b o,h=>rfl
 | .c g j,h=>by
  have h1:(!(Nat.beq g k))=true:=h
  show upd γ k F g j=_
  rw [upd_ne _ _ (Zv h1)];rfl
 | .a l,h=>by show Value.agg _=Value.agg _;rw [oG l h]
 | .t l,h=>by show Value.tuple _=Value.tuple _;rw [oG l h]
 | .f fn fs cap,h=>by
  have h1:(wP k fs&&wP k cap)=true:=h
  rw [Bool.and_eq_true] at h1
  show Value.func _ _ _=Value.func _ _ _;rw [oG fs h1.1,oG cap h1.2]
theorem oG {α:Env} {γ:kR} {k:Nat} {F:Nat→Value}:∀ (l:List SV),wP k l=true→bZ α (upd γ k F) l=bZ α γ l
 | [],_=>rfl
 | x::l,h=>by
  have h1:(Xu k x&&wP k l)=true:=h
  rw [Bool.and_eq_true] at h1
  show _::_=_::_
  rw [Jk x h1.1,oG l h1.2]
end
theorem jh (α:Env) (γ:kR):∀ l,bZ α γ l=l.map (den α γ)
 | []=>rfl
 | x::l=>by show _::_=_::_;rw [jh α γ l]
theorem iD (α:Env) (γ:kR) (l:List SV):(bZ α γ l).length=l.length:=by rw [jh,List.length_map]
theorem Ak (α:Env) (γ:kR) (l m:List SV):bZ α γ (l++m)=bZ α γ l++bZ α γ m:=by rw [jh,jh,jh,List.map_append]
theorem zD (α:Env) (γ:kR) (n:Nat) (l:List SV):bZ α γ (l.take n)=(bZ α γ l).take n:=by rw [jh,jh,List.map_take]
theorem zF (α:Env) (γ:kR) (n:Nat) (l:List SV):bZ α γ (l.drop n)=(bZ α γ l).drop n:=by rw [jh,jh,List.map_drop]
abbrev Fr:=List (Nat × SV)
def gI (α:Env) (γ:kR):Fr→List (Nat × Value)
 | []=>[]
 | (d,s)::l=>(d,den α γ s)::gI α γ l
def lk:Fr→Nat→Option SV
 | [],_=>none
 | (d,s)::l,t=>match Nat.beq d t with
  | true=>some s
  | false=>lk l t
theorem fJ {α:Env} {γ:kR}:∀ (l:Fr) (t:Nat),Go.Proofs.YtgcieamfidoaoaaGreatDoor.Pl.look (gI α γ l) t=(lk l t).map (den α γ)
 | [],_=>rfl
 | (d,s)::l,t=>by
  unfold gI Go.Proofs.YtgcieamfidoaoaaGreatDoor.Pl.look lk
  cases Nat.beq d t with
  | true=>rfl
  | false=>exact fJ l t
def ev (l:Fr):Operand→Option SV
 | .tmp t=>lk l t
 | .const v=>some (.v v)
 | .global g=>some (.v (.pointer (some ⟨g,0,none⟩)))
 | .func f=>some (.v (.func (.func f) #[] #[]))
theorem bT {α:Env} {γ:kR} {l:Fr} {x:Operand} {s:SV} (h:ev l x=some s):dK (gI α γ l) x=some (den α γ s):=by
 cases x with
 | tmp t=>show Go.Proofs.YtgcieamfidoaoaaGreatDoor.Pl.look (gI α γ l) t=_;rw [fJ,show lk l t=some s from h];rfl
 | const v=>obtain rfl:=Option.some.inj h;rfl
 | global g=>obtain rfl:=Option.some.inj h;rfl
 | func f=>obtain rfl:=Option.some.inj h;rfl
def evs (l:Fr):List Operand→Option (List SV)
 | []=>some []
 | x::xs=>match ev l x with
  | none=>none
  | some v=>match evs l xs with
   | none=>none
   | some vs=>some (v::vs)
theorem xz {α:Env} {γ:kR} {l:Fr}:∀ {xs:List Operand} {ss:List SV},evs l xs=some ss→sw (gI α γ l) xs=some (bZ α γ ss)
 | [],ss,h=>by obtain rfl:=Option.some.inj h;rfl
 | x::xs,ss,h=>by
  unfold evs at h
  cases hx:ev l x with
  | none=>rw [hx] at h;cases h
  | some s =>
   rw [hx] at h
   cases hxs:evs l xs with
   | none=>rw [hxs] at h;cases h
   | some us =>
    rw [hxs] at h
    obtain rfl:=Option.some.inj h
    unfold sw
    rw [bT hx,xz hxs];rfl
abbrev Bx:=List (Nat × TypeId × List SV)
def jU:Bx→Nat→Option (TypeId × List SV)
 | [],_=>none
 | (b,x)::l,k=>match Nat.beq b k with
  | true=>some x
  | false=>jU l k
def Da (k:Nat):Fr→Bool
 | []=>true
 | (_,s)::l=>Xr k s&&Da k l
def AZ (k:Nat):Bx→Bool
 | []=>true
 | (b,_,cs)::l=>!(Nat.beq b k)&&qK k cs&&AZ k l
def D8 (k:Nat):Fr→Bool
 | []=>true
 | (_,s)::l=>Xu k s&&D8 k l
def Db (k:Nat):Bx→Bool
 | []=>true
 | (_,_,cs)::l=>wP k cs&&Db k l
theorem uS {α:Env} {γ:kR} {k N:Nat}:∀ (l:Fr),Da k l=true→gI (upd α k N) γ l=gI α γ l
 | [],_=>rfl
 | (d,s)::l,h=>by
  have h1:(Xr k s&&Da k l)=true:=h
  rw [Bool.and_eq_true] at h1
  show (_,_)::_=(_,_)::_
  rw [Jj s h1.1,uS l h1.2]
theorem mO {α:Env} {γ:kR} {k:Nat} {F:Nat→Value}:∀ (l:Fr),D8 k l=true→gI α (upd γ k F) l=gI α γ l
 | [],_=>rfl
 | (d,s)::l,h=>by
  have h1:(Xu k s&&D8 k l)=true:=h
  rw [Bool.and_eq_true] at h1
  show (_,_)::_=(_,_)::_
  rw [Jk s h1.1,mO l h1.2]
theorem Gj {k:Nat}:∀ {B:Bx} {b:Nat} {T:TypeId} {cs:List SV},AZ k B=true→jU B b=some (T,cs)→b≠k∧qK k cs=true
 | [],_,_,_,_,h=>by cases h
 | (b',x,cs')::B,b,T,cs,h,e=>by
  have h1:(!(Nat.beq b' k)&&qK k cs'&&AZ k B)=true:=h
  rw [Bool.and_eq_true,Bool.and_eq_true] at h1
  unfold jU at e
  cases hb:Nat.beq b' b with
  | true =>
   rw [hb] at e
   obtain rfl:=Nat.eq_of_beq_eq_true hb
   cases e
   exact ⟨Zv h1.1.1,h1.1.2⟩
  | false =>
   rw [hb] at e
   exact Gj h1.2 e
theorem MP {k:Nat}:∀ {B:Bx} {b:Nat} {T:TypeId} {cs:List SV},Db k B=true→jU B b=some (T,cs)→wP k cs=true
 | [],_,_,_,_,h=>by cases h
 | (b',x,cs')::B,b,T,cs,h,e=>by
  have h1:(wP k cs'&&Db k B)=true:=h
  rw [Bool.and_eq_true] at h1
  unfold jU at e
  cases hb:Nat.beq b' b with
  | true=>rw [hb] at e;cases e;exact h1.1
  | false=>rw [hb] at e;exact MP h1.2 e
def bG:Value→Bool
 | .agg _=>false
 | .tuple _=>false
 | .int .u32 _=>false
 | _=>true
def Ei (w:World) (k:Nat):Prop:=∀ cs T m,w.heap[k]?=some (.cells cs T m)→∀ c∈cs.toList,∀ z,c≠.int .u32 z
structure Spec where
 P:(Nat→Prop)→World→(Nat→Value)→Prop
 keep:∀ {X:Nat→Prop} {w w':World} {f:Nat→Value},P X w f→w.heap.size≤w'.heap.size→(∀ k,k<w.heap.size→¬ X k→w'.heap[k]?=w.heap[k]?)→(∀ k,X k→Ei w k)→(∀ k,X k→Ei w' k)→P X w' f
 grow:∀ {X Y:Nat→Prop} {w:World} {f:Nat→Value},P X w f→(∀ k,Y k→X k∨w.heap.size≤k)→(∀ k,Y k→Ei w k)→P Y w f
abbrev Gm:=List (Nat × Spec)
def lW:Gm→Nat→Option Spec
 | [],_=>none
 | (g,S)::l,k=>match Nat.beq g k with
  | true=>some S
  | false=>lW l k
def hasB (B:Bx) (b:Nat):Prop:=∃ x,jU B b=some x
def own (B:Bx) (α:Env) (k:Nat):Prop:=∃ b,hasB B b∧α b=k
structure Holds (w0:World) (B:Bx) (Γ:Gm) (α:Env) (γ:kR) (w:World):Prop where
 ex:Ex w0 w
 box:∀ b T cs,jU B b=some (T,cs)→Cb w (α b) T (bZ α γ cs)∧w0.heap.size≤α b∧∀ c∈bZ α γ cs,bG c=true
 inj:∀ b b',hasB B b→hasB B b'→α b=α b'→b=b'
 sc:∀ g k,bG (γ g k)=true
 fact:∀ g S,lW Γ g=some S→S.P (own B α) w (γ g)
theorem VJ {v:Value} (h:bG v=true) (z:Int):v≠.int .u32 z:=by rintro rfl;cases h
theorem lS {v:Value} (h:bG v=true):v.oneCell'=true∧v.cells=#[v]:=by
 cases v<;>first | (cases h;done) | exact ⟨rfl,rfl⟩
theorem Dc {w:World} {N:Nat} {T:TypeId} {cs:List Value} (h:Cb w N T cs) (hp:∀ c∈cs,bG c=true):Ei w N:=by
 intro cs' T' m e c hc z
 rw [show w.heap[N]?=_ from h] at e
 cases e
 exact VJ (hp c hc) z
theorem Holds.mE {w0:World} {B:Bx} {Γ:Gm} {α:Env} {γ:kR} {w:World} (h:Holds w0 B Γ α γ w) {k:Nat} (hk:own B α k):k<w.heap.size∧w0.heap.size≤k∧Ei w k:=by
 obtain ⟨b,⟨⟨T,cs⟩,hb⟩,rfl⟩:=hk
 obtain ⟨h1,h2,h3⟩:=h.box b T cs hb
 exact ⟨h1.lt,h2,Dc h1 h3⟩
theorem Holds.ext {w0:World} {B:Bx} {Γ:Gm} {α:Env} {γ:kR} {w w':World} (h:Holds w0 B Γ α γ w) (hE:Ex w w'):Holds w0 B Γ α γ w' where
 ex:=h.ex.trans hE
 box b T cs hb:=by
  obtain ⟨h1,h2,h3⟩:=h.box b T cs hb
  exact ⟨h1.ex hE,h2,h3⟩
 inj:=h.inj
 sc:=h.sc
 fact g S hg:=by
  refine S.keep (h.fact g S hg) hE.size (fun k hk _=>hE.block k hk) (fun k hk=>(h.mE hk).2.2) fun k hk=>?_
  obtain ⟨b,⟨⟨T,cs⟩,hb⟩,rfl⟩:=hk
  obtain ⟨h1,h2,h3⟩:=h.box b T cs hb
  exact Dc (h1.ex hE) h3
theorem Holds.add {w0:World} {B:Bx} {Γ:Gm} {α:Env} {γ:kR} {w:World} (h:Holds w0 B Γ α γ w) (g:Nat) (S:Spec) (F:Nat→Value) (hB:Db g B=true) (hs:∀ k,bG (F k)=true) (hP:S.P (own B α) w F) (hΓ:lW Γ g=none) :
  Holds w0 B ((g,S)::Γ) α (upd γ g F) w where
 ex:=h.ex
 box b T cs hb:=by
  rw [oG cs (MP hB hb)]
  exact h.box b T cs hb
 inj:=h.inj
 sc i k:=by
  unfold upd
  split
  · exact hs k
  · exact h.sc i k
 fact i S' hi:=by
  unfold lW at hi
  cases hb:Nat.beq g i with
  | true =>
   rw [hb] at hi
   obtain rfl:=Nat.eq_of_beq_eq_true hb
   cases hi
   rw [upd_same];exact hP
  | false =>
   rw [hb] at hi
   rw [upd_ne _ _ (fun e=>Nat.ne_of_beq_eq_false hb e.symm)]
   exact h.fact i S' hi
theorem Holds.new {w0:World} {B:Bx} {Γ:Gm} {α:Env} {γ:kR} {w w':World} (h:Holds w0 B Γ α γ w) (k N:Nat) (T:TypeId) (cs:List SV) (hB:AZ k B=true) (hc:qK k cs=true) (hE:Ex w w') (hN:N=w.heap.size) (hC:Cb w' N T (bZ α γ cs)) (hp:∀ c∈bZ α γ cs,bG c=true) :
  Holds w0 ((k,T,cs)::B) Γ (upd α k N) γ w':=by
 have hne:∀ b,hasB B b→b≠k∧α b≠N:=fun b ⟨⟨T',cs'⟩,hb⟩=>⟨(Gj hB hb).1,fun e=>by have:=(h.box b T' cs' hb).1.lt;omega⟩
 have hhas:∀ b,hasB ((k,T,cs)::B) b→b=k∨b≠k∧hasB B b:=fun b ⟨x,hx⟩=>by
  unfold jU at hx
  cases hb:Nat.beq k b with
  | true=>exact .inl (Nat.eq_of_beq_eq_true hb).symm
  | false=>rw [hb] at hx;exact .inr ⟨fun e=>Nat.ne_of_beq_eq_false hb e.symm,x,hx⟩
 have Sv:∀ b T1 c1,jU ((k,T,cs)::B) b=some (T1,c1)→Cb w' (upd α k N b) T1 (bZ (upd α k N) γ c1)∧w0.heap.size≤upd α k N b∧∀ c∈bZ (upd α k N) γ c1,bG c=true:=by
  intro b T1 c1 hb
  unfold jU at hb
  cases hbb:Nat.beq k b with
  | true =>
   rw [hbb] at hb
   obtain rfl:=Nat.eq_of_beq_eq_true hbb
   cases hb
   rw [upd_same,mY _ hc]
   exact ⟨hC,by have:=h.ex.size;omega,hp⟩
  | false =>
   rw [hbb] at hb
   obtain ⟨h1,h2⟩:=Gj hB hb
   obtain ⟨h3,h4,h5⟩:=h.box b T1 c1 hb
   rw [upd_ne _ _ h1,mY _ h2]
   exact ⟨h3.ex hE,h4,h5⟩
 refine ⟨h.ex.trans hE,Sv,?_,h.sc,fun g S hg=>?_⟩
 · intro b b' h1 h2 e
   rcases hhas b h1 with e1 | ⟨n1,h1⟩<;>rcases hhas b' h2 with e2 | ⟨n2,h2⟩
   · rw [e1,e2]
   · rw [e1,upd_same,upd_ne _ _ n2] at e;exact absurd e.symm (hne _ h2).2
   · rw [e2,upd_same,upd_ne _ _ n1] at e;exact absurd e (hne _ h1).2
   · rw [upd_ne _ _ n1,upd_ne _ _ n2] at e;exact h.inj b b' h1 h2 e
 · have hno:∀ q,own ((k,T,cs)::B) (upd α k N) q→Ei w' q:=by
    rintro q ⟨b,⟨⟨T1,c1⟩,hb⟩,rfl⟩
    obtain ⟨h1,h2,h3⟩:=Sv b T1 c1 hb
    exact Dc h1 h3
   have hf:=S.keep (h.fact g S hg) hE.size (fun q hq _=>hE.block q hq) (fun q hq=>(h.mE hq).2.2) (fun q hq=>by
    obtain ⟨b,⟨⟨T1,c1⟩,hb⟩,rfl⟩:=hq
    obtain ⟨h1,h2,h3⟩:=h.box b T1 c1 hb
    exact Dc (h1.ex hE) h3)
   -- the new block is younger than all that the fact speaks of: told at the old world first
   have hg0:=S.grow (Y:=own ((k,T,cs)::B) (upd α k N)) (h.fact g S hg) (fun q ⟨b,hb,e⟩=>by
    rcases hhas b hb with rfl | ⟨n1,h1⟩
    · rw [upd_same] at e;right;omega
    · rw [upd_ne _ _ n1] at e;left;exact ⟨b,h1,e⟩) (fun q ⟨b,hb,e⟩=>by
    rcases hhas b hb with rfl | ⟨n1,h1⟩
    · rw [upd_same] at e
      intro cs' T' m hm
      rw [Array.getElem?_eq_none (by omega)] at hm;cases hm
    · rw [upd_ne _ _ n1] at e;exact (h.mE ⟨b,h1,e⟩).2.2)
   exact S.keep hg0 hE.size (fun q hq _=>hE.block q hq) (fun q ⟨b,hb,e⟩=>by
    rcases hhas b hb with rfl | ⟨n1,h1⟩
    · rw [upd_same] at e
      intro cs' T' m hm
      rw [Array.getElem?_eq_none (by omega)] at hm;cases hm
    · rw [upd_ne _ _ n1] at e;exact (h.mE ⟨b,h1,e⟩).2.2) hno
theorem Holds.put {w0:World} {B:Bx} {Γ:Gm} {α:Env} {γ:kR} {w w':World} (h:Holds w0 B Γ α γ w) (b:Nat) (T:TypeId) (old cs:List SV) (hb:jU B b=some (T,old)) (hX:Xs [α b] w w') (hC:Cb w' (α b) T (bZ α γ cs)) (hp:∀ c∈bZ α γ cs,bG c=true) :
  Holds w0 ((b,T,cs)::B) Γ α γ w':=by
 have hlk:∀ q,hasB ((b,T,cs)::B) q↔hasB B q:=fun q=>by
  constructor
  · rintro ⟨x,hx⟩
    unfold jU at hx
    cases hq:Nat.beq b q with
    | true=>obtain rfl:=Nat.eq_of_beq_eq_true hq;exact ⟨_,hb⟩
    | false=>rw [hq] at hx;exact ⟨x,hx⟩
  · rintro ⟨x,hx⟩
    cases hq:Nat.beq b q with
    | true=>exact ⟨(T,cs),by unfold jU;rw [hq]⟩
    | false=>exact ⟨x,by unfold jU;rw [hq];exact hx⟩
 have hown:∀ q,own ((b,T,cs)::B) α q↔own B α q:=fun q=>⟨fun ⟨c,h1,h2⟩=>⟨c,(hlk c).1 h1,h2⟩,fun ⟨c,h1,h2⟩=>⟨c,(hlk c).2 h1,h2⟩⟩
 have Sv:∀ q T1 c1,jU ((b,T,cs)::B) q=some (T1,c1)→Cb w' (α q) T1 (bZ α γ c1)∧w0.heap.size≤α q∧∀ c∈bZ α γ c1,bG c=true:=by
  intro q T1 c1 hq
  unfold jU at hq
  cases hbb:Nat.beq b q with
  | true =>
   rw [hbb] at hq
   obtain rfl:=Nat.eq_of_beq_eq_true hbb
   cases hq
   exact ⟨hC,(h.box _ _ _ hb).2.1,hp⟩
  | false =>
   rw [hbb] at hq
   obtain ⟨h3,h4,h5⟩:=h.box q T1 c1 hq
   refine ⟨h3.xs hX (fun hm=>?_),h4,h5⟩
   have e:α q=α b:=by simpa using hm
   exact Nat.ne_of_beq_eq_false hbb (h.inj q b ⟨_,hq⟩ ⟨_,hb⟩ e).symm
 have hno:∀ q,own ((b,T,cs)::B) α q→Ei w' q:=by
  rintro q ⟨c,⟨⟨T1,c1⟩,hc⟩,rfl⟩
  obtain ⟨h1,h2,h3⟩:=Sv c T1 c1 hc
  exact Dc h1 h3
 refine ⟨h.ex.xs hX (h.box _ _ _ hb).2.1,Sv,fun q q' h1 h2=>h.inj q q' ((hlk q).1 h1) ((hlk q').1 h2),h.sc,fun g S hg=>?_⟩
 have h0:=S.grow (Y:=own ((b,T,cs)::B) α) (h.fact g S hg) (fun q hq=>.inl ((hown q).1 hq)) (fun q hq=>(h.mE ((hown q).1 hq)).2.2)
 exact S.keep h0 hX.size (fun q hq hn=>hX.block q hq (fun hm=>hn ⟨b,(hlk b).2 ⟨_,hb⟩,List.mem_singleton.1 hm |>.symm⟩)) (fun q hq=>(h.mE ((hown q).1 hq)).2.2) hno
end Go.Proofs.YtgcieamfidoaoaaGreatDoor.Rf
/- Regions that draw nothing, walked by reckoning: what an operation does to values and boxes. -/
namespace Go.Proofs.YtgcieamfidoaoaaGreatDoor.Rf
open Go Go.RowKit Go.Proofs.YtgcieamfidoaoaaGreatDoor.Pl
set_option maxRecDepth 100000
structure TI where
 zero:TypeId→Option (List SV)
 size:TypeId→Option (Nat × Bool)
 off:TypeId→Nat→Option Nat
structure E8 (P:Program) (T:TI):Prop where
 zero:∀ t cs,T.zero t=some cs→∃ z,(P.info? t).map (fun i=>i.zero)=some (some z)∧(∀ α γ,bZ α γ cs=z.cells.toList)∧(∀ α γ,∀ c∈bZ α γ cs,bG c=true)∧(∀ k,qK k cs=true)
 size:∀ t n r,T.size t=some (n,r)→(P.info? t).map (·.size)=some n∧∃ d,P.underlying t=some d∧d.isRow=r
 off:∀ s f o,T.off s f=some o→∀ N q X,(Instr.fieldAt s (.pointer (some ⟨N,q,none⟩)) f).run P X = .ok (.pointer (some ⟨N,q+o,none⟩)) X
def qL {A:Type}:List A→Nat→Option A
 | [],_=>none
 | x::_,0=>some x
 | _::l,n+1=>qL l n
theorem p8 {A:Type}:∀ (l:List A) (i:Nat),qL l i=l[i]?
 | [],_=>by simp [qL]
 | _::_,0=>by simp [qL]
 | _::l,n+1=>by simp only [qL,p8 l n,List.getElem?_cons_succ]
def cellsOf:SV→Option (List SV)
 | .a l=>some l
 | .t _=>none
 | x=>some [x]
def Xv:SV→Bool
 | .v x=>bG x
 | .p _ _=>true
 | .c _ _=>true
 | .f _ _ _=>true
 | _=>false
def D9:List SV→Bool
 | []=>true
 | x::l=>Xv x&&D9 l
theorem zG {α:Env} {γ:kR} (hγ:∀ g k,bG (γ g k)=true) {s:SV} (h:Xv s=true):bG (den α γ s)=true:=by
 cases s with
 | v x=>exact h
 | p b o=>rfl
 | c g k=>exact hγ g k
 | a l=>cases h
 | t l=>cases h
 | f fn fs cap=>rfl
theorem lC {α:Env} {γ:kR} (hγ:∀ g k,bG (γ g k)=true):∀ {l:List SV},D9 l=true→∀ c∈bZ α γ l,bG c=true
 | [],_,c,hc=>by cases hc
 | x::l,h,c,hc=>by
  have h1:(Xv x&&D9 l)=true:=h
  rw [Bool.and_eq_true] at h1
  rcases List.mem_cons.1 (show c∈den α γ x::bZ α γ l from hc) with rfl | hc
  · exact zG hγ h1.1
  · exact lC hγ h1.2 c hc
theorem EH {α:Env} {γ:kR} (hγ:∀ g k,bG (γ g k)=true) {s:SV} {cs:List SV} (h:cellsOf s=some cs) (hk:D9 cs=true):(den α γ s).cells=(bZ α γ cs).toArray:=by
 cases s with
 | a l=>obtain rfl:=Option.some.inj h;rfl
 | t l=>cases h
 | v x =>
  obtain rfl:=Option.some.inj h
  have h1:(Xv (.v x)&&true)=true:=hk
  rw [Bool.and_true] at h1
  exact (lS (show bG x=true from h1)).2
 | p b o=>obtain rfl:=Option.some.inj h;rfl
 | c g k=>obtain rfl:=Option.some.inj h;exact (lS (hγ g k)).2
 | f fn fs cap=>obtain rfl:=Option.some.inj h;rfl
def De (cs:List SV) (o:Nat) (vs:List SV):List SV:=cs.take o++(vs++cs.drop (Nat.add o vs.length))
def Ea:Bx→Nat→Bx
 | [],_=>[]
 | (b,x)::l,k=>match Nat.beq b k with
  | true=>Ea l k
  | false=>(b,x)::Ea l k
theorem Gl:∀ (B:Bx) (k b:Nat),b≠k→jU (Ea B k) b=jU B b
 | [],_,_,_=>rfl
 | (q,x)::l,k,b,h=>by
  cases hq:Nat.beq q k with
  | true =>
   have e:=Nat.eq_of_beq_eq_true hq
   cases hb:Nat.beq q b with
   | true=>exact absurd (by rw [← Nat.eq_of_beq_eq_true hb,e]) h
   | false=>simp only [Ea,hq,jU,hb];exact Gl l k b h
  | false =>
   cases hb:Nat.beq q b with
   | true=>simp only [Ea,hq,jU,hb]
   | false=>simp only [Ea,hq,jU,hb];exact Gl l k b h
theorem VK (B:Bx) (b:Nat) (x:TypeId × List SV) (q:Nat):jU ((b,x)::Ea B b) q=jU ((b,x)::B) q:=by
 unfold jU
 cases hb:Nat.beq b q with
 | true=>rfl
 | false=>exact Gl B b q (fun e=>Nat.ne_of_beq_eq_false hb e.symm)
theorem Holds.congr {w0:World} {B B':Bx} {Γ:Gm} {α:Env} {γ:kR} {w:World} (h:Holds w0 B Γ α γ w) (e:∀ b,jU B' b=jU B b):Holds w0 B' Γ α γ w:=by
 have e1:jU B'=jU B:=funext e
 have e2:own B' α=own B α:=by
  funext k
  unfold own hasB
  rw [e1]
 refine ⟨h.ex,fun b T cs hb=>h.box b T cs (by rw [← e];exact hb),fun b b' h1 h2=>h.inj b b' ?_ ?_,h.sc,fun g S hg=>by rw [e2];exact h.fact g S hg⟩
 · obtain ⟨x,hx⟩:=h1;exact ⟨x,by rw [← e];exact hx⟩
 · obtain ⟨x,hx⟩:=h2;exact ⟨x,by rw [← e];exact hx⟩
def O3 (T:TI) (l:Fr) (B:Bx) (k:Nat):Op→Option (Option SV × Bx × Nat)
 | .move x=>match ev l x with
  | some s=>some (some s,B,k)
  | none=>none
 | .assign x=>match ev l x with
  | some s=>some (some s,B,k)
  | none=>none
 | .pick c x y=>match ev l c with
  | some (.v (.bool true))=>match ev l x with
   | some s=>some (some s,B,k)
   | none=>none
  | some (.v (.bool false))=>match ev l y with
   | some s=>some (some s,B,k)
   | none=>none
  | _=>none
 | .extract x i=>match ev l x with
  | some (.t ls)=>match qL ls i with
   | some s=>some (some s,B,k)
   | none=>none
  | _=>none
 | .fieldAddr s x f=>match ev l x with
  | some (.p b o)=>match T.off s f with
   | some d=>some (some (.p b (Nat.add o d)),B,k)
   | none=>none
  | _=>none
 | .alloc t=>match T.zero t with
  | some cs=>match Da k l&&AZ k B with
   | true=>some (some (.p k 0),(k,t,cs)::B,Nat.succ k)
   | false=>none
  | none=>none
 | .box t x=>match ev l x with
  | some s=>match cellsOf s with
   | some cs=>match D9 cs&&(qK k cs&&(Da k l&&AZ k B)) with
    | true=>some (some (.p k 0),(k,t,cs)::B,Nat.succ k)
    | false=>none
   | none=>none
  | none=>none
 | .load t x=>match ev l x with
  | some (.p b o)=>match jU B b with
   | some (_,cs)=>match T.size t with
    | some (n,true)=>match Nat.beq ((cs.drop o).take n).length n with
     | true=>some (some (.a ((cs.drop o).take n)),B,k)
     | false=>none
    | some (_,false)=>match qL cs o with
     | some s=>some (some s,B,k)
     | none=>none
    | none=>none
   | none=>none
  | _=>none
 | .store t x y=>match ev l x with
  | some (.p b o)=>match jU B b with
   | some (u,cs)=>match ev l y with
    | some (.a vs)=>match T.size t with
     | some (n,true)=>match Nat.beq vs.length n&&(Nat.ble (Nat.add o vs.length) cs.length&&D9 vs) with
      | true=>some (none,(b,u,De cs o vs)::Ea B b,k)
      | false=>none
     | _=>none
    | some (.t _)=>none
    | some s=>match T.size t with
     | some (1,false)=>match Nat.ble (Nat.succ o) cs.length&&Xv s with
      | true=>some (none,(b,u,De cs o [s])::Ea B b,k)
      | false=>none
     | _=>none
    | none=>none
   | none=>none
  | _=>none
 | _=>none
def K6:List Value→Nat→List Value→List Value
 | cs,_,[]=>cs
 | cs,o,v::vs=>K6 (cs.set o v) (o+1) vs
theorem Gn:∀ (vs:List Value) (cs:List Value) (o:Nat),o+vs.length≤cs.length→K6 cs o vs=cs.take o++(vs++cs.drop (o+vs.length))
 | [],cs,o,_=>by simp [K6]
 | v::vs,cs,o,h=>by
  have hl:o<cs.length:=by simp at h;omega
  unfold K6
  rw [Gn vs (cs.set o v) (o+1) (by simp at h ⊢;omega)]
  have e1:(cs.set o v).take (o+1)=cs.take o++[v]:=by
   rw [List.take_succ,List.getElem?_set_self hl,List.take_set_of_le (Nat.le_refl _)];rfl
  have e2:(cs.set o v).drop (o+1+vs.length)=cs.drop (o+1+vs.length):=List.drop_set_of_lt (by omega)
  rw [e1,e2,List.length_cons,show o+(vs.length+1)=o+1+vs.length by omega]
  simp
theorem uo {N:Nat} {T:TypeId}:∀ (vs:List Value) (o:Nat) {w:World} {cs:List Value},Cb w N T cs→Cb (w.setCells N o vs) N T (K6 cs o vs)
 | [],_,_,_,h=>h
 | v::vs,o,_,_,h=>uo vs (o+1) (Cb.set h o v)
theorem uu {N:Nat}:∀ (vs:List Value) (o:Nat) (w:World),Xs [N] w (w.setCells N o vs)
 | [],_,w=>Xs.ex (Ex.refl w)
 | v::vs,o,w=>(Xs.set w N o v).trans (uu vs (o+1) _)
theorem EI {P:Program} {w:World} {N:Nat} {T:TypeId} {cs:List Value} (h:Cb w N T cs) (o:Nat) (vs:List Value) (hl:o+vs.length≤cs.length) (ty:TypeId) (hi:(P.info? ty).map (·.size)=some vs.length) (h1:∀ v∈vs,v.oneCell'=true) :
  (Instr.storeAt ty (.pointer (some ⟨N,o,none⟩)) (.agg vs.toArray)).run P w = .ok () (w.setCells N o vs):=by
 have ht:w.there N o vs.toArray.size:=fun j hj=>by
  have hj:j<vs.length:=by simpa using hj
  have hlt:o+j<cs.length:=by omega
  refine ⟨by rw [h.at (List.getElem?_eq_getElem hlt)];rfl,?_⟩
  unfold Cb at h
  simp [World.frozen?,h]
 have:=run_storeAt_mid (P:=P) w N o ty vs.toArray ht (by simpa using hi) (all_oneCell_toArray h1)
 simpa using this
theorem uT (α:Env) (γ:kR) (cs:List SV) (o:Nat) (vs:List SV):bZ α γ (De cs o vs)=(bZ α γ cs).take o++(bZ α γ vs++(bZ α γ cs).drop (o+(bZ α γ vs).length)):=by
 unfold De
 rw [Ak,Ak,zD,zF,iD];rfl
theorem Df {cs vs:List Value} {o:Nat} (h1:∀ c∈cs,bG c=true) (h2:∀ c∈vs,bG c=true):∀ c∈cs.take o++(vs++cs.drop (o+vs.length)),bG c=true:=by
 intro c hc
 rcases List.mem_append.1 hc with h | h
 · exact h1 c (List.mem_of_mem_take h)
 · rcases List.mem_append.1 h with h | h
   · exact h2 c h
   · exact h1 c (List.mem_of_mem_drop h)
def Does (P:Program) (w0:World) (l:Fr) (Γ:Gm) (α:Env) (γ:kR) (w:World) (o:Oper) (out:Option SV) (B':Bx):Prop :=
 ∃ α' w',(∀ ρ,Cons ρ (gI α γ l)→(execOp ρ o).run P w = .ok (match out with | some s=>.value (den α' γ s) | none=>.skip) w')∧Holds w0 B' Γ α' γ w'∧gI α' γ l=gI α γ l
theorem Sw {P:Program} {T:TI} (hT:E8 P T) {w0:World} {l:Fr} {B B':Bx} {Γ:Gm} {k k':Nat} {α:Env} {γ:kR} {w:World} {o:Oper} {out:Option SV} (hH:Holds w0 B Γ α γ w) (h:O3 T l B k o.op=some (out,B',k')):Does P w0 l Γ α γ w o out B':=by
 obtain ⟨dst,op,ty,pos,aft,gu⟩:=o
 dsimp only at h
 have val:∀ (s:SV),(∀ ρ,Cons ρ (gI α γ l)→(execOp ρ ⟨dst,op,ty,pos,aft,gu⟩).run P w = .ok (.value (den α γ s)) w)→Does P w0 l Γ α γ w ⟨dst,op,ty,pos,aft,gu⟩ (some s) B:=fun s hs=>⟨α,w,hs,hH,rfl⟩
 cases op<;>try (cases h;done)
 case move x =>
  simp only [O3] at h
  split at h
  · next s hs=>cases h;exact val s fun ρ hρ=>by unfold execOp;show Result.ok (Next.value (ρ x)) w=_;rw [hρ.dK (bT hs)]
  · cases h
 case assign x =>
  simp only [O3] at h
  split at h
  · next s hs=>cases h;exact val s fun ρ hρ=>by unfold execOp;show Result.ok (Next.value (ρ x)) w=_;rw [hρ.dK (bT hs)]
  · cases h
 case pick c x y =>
  simp only [O3] at h
  split at h
  · next hc =>
    split at h
    · next s hs =>
      cases h
      refine val s fun ρ hρ=>?_
      show (asBool (ρ c) >>= fun t=>pure (Next.value (if t then ρ x else ρ y))).run P w=_
      rw [hρ.dK (bT hc),hρ.dK (bT hs)];rfl
    · cases h
  · next hc =>
    split at h
    · next s hs =>
      cases h
      refine val s fun ρ hρ=>?_
      show (asBool (ρ c) >>= fun t=>pure (Next.value (if t then ρ x else ρ y))).run P w=_
      rw [hρ.dK (bT hc),hρ.dK (bT hs)];rfl
    · cases h
  · cases h
 case extract x i =>
  simp only [O3] at h
  split at h
  · next ls hl =>
    split at h
    · next s hs =>
      cases h
      refine val s fun ρ hρ=>dI _ w ?_
      rw [hρ.dK (bT hl)]
      rw [p8] at hs
      have e:(bZ α γ ls).toArray[i]?=some (den α γ s):=by rw [List.getElem?_toArray,jh,List.getElem?_map,hs];rfl
      simp [den,Instr.extract,e]
    · cases h
  · cases h
 case fieldAddr s x f =>
  simp only [O3] at h
  split at h
  · next b q hb =>
    split at h
    · next d hd =>
      cases h
      refine val _ fun ρ hρ=>dI _ w ?_
      rw [hρ.dK (bT hb)]
      exact hT.off s f d hd (α b) q w
    · cases h
  · cases h
 case alloc t =>
  simp only [O3] at h
  split at h
  · next cs hz =>
    split at h
    · next hf =>
      cases h
      rw [Bool.and_eq_true] at hf
      obtain ⟨z,h1,h2,h3,h4⟩:=hT.zero t cs hz
      have h0:(zeroValue t).run P w = .ok z w:=by
       cases hq:P.info? t with
       | none=>simp [hq] at h1
       | some i=>simp [hq] at h1;simp [zeroValue,typeInfo,hq,h1]
      have hc:Cb (w.alloc (.cells z.cells t)) w.heap.size t (bZ α γ cs):=by
       have:=Cb.new w t z.cells.toList
       rw [h2];simpa using this
      refine ⟨upd α k w.heap.size,w.alloc (.cells z.cells t),fun ρ hρ=>?_,hH.new k _ t cs hf.2 (h4 k) (Ex.alloc w _) rfl hc (h3 α γ),uS l hf.1⟩
      show (Instr.alloc t true (.tuple #[]) >>= fun u=>pure (Next.value u)).run P w = .ok (.value (.pointer (some ⟨upd α k w.heap.size k,0,none⟩))) _
      rw [upd_same]
      simp [Instr.alloc,Sem.run_bind,h0,newVar,newRow]
    · cases h
  · cases h
 case box t x =>
  simp only [O3] at h
  split at h
  · next s hs =>
    split at h
    · next cs hc =>
      split at h
      · next hf =>
        cases h
        simp only [Bool.and_eq_true] at hf
        have hcell:=EH (α:=α) hH.sc hc hf.1
        refine ⟨upd α k w.heap.size,w.alloc (.cells (bZ α γ cs).toArray t),fun ρ hρ=>?_,hH.new k _ t cs hf.2.2.2 hf.2.1 (Ex.alloc w _) rfl (Cb.new w t _) (lC hH.sc hf.1),uS l hf.2.2.1⟩
        show (Instr.box t (ρ x) >>= fun u=>pure (Next.value u)).run P w = .ok (.value (.pointer (some ⟨upd α k w.heap.size k,0,none⟩))) _
        rw [upd_same,hρ.dK (bT hs)]
        simp [Instr.box,Sem.run_bind,newVar,newRow,hcell]
      · cases h
    · cases h
  · cases h
 case load t x =>
  simp only [O3] at h
  split at h
  · next b q hb =>
    split at h
    · next u cs hB =>
      obtain ⟨hC,hlo,hp⟩:=hH.box b u cs hB
      split at h
      · next n hn =>
        split at h
        · next hl =>
          cases h
          obtain ⟨h1,dd,h2,h3⟩:=hT.size t n true hn
          refine val _ fun ρ hρ=>dI _ w ?_
          rw [hρ.dK (bT hb)]
          have hl':=Nat.eq_of_beq_eq_true hl
          have e:bZ α γ ((cs.drop q).take n)=((bZ α γ cs).drop q).take n:=by rw [zD,zF]
          have e2:(bZ α γ ((cs.drop q).take n)).length=n:=by rw [iD];exact hl'
          exact hC.load (part:=bZ α γ ((cs.drop q).take n)) (by rw [e2,e]) h2 h3 (by rw [e2];exact h1)
        · cases h
      · next n hn =>
        split at h
        · next s hs =>
          cases h
          obtain ⟨h1,dd,h2,h3⟩:=hT.size t n false hn
          refine val _ fun ρ hρ=>dI _ w ?_
          rw [hρ.dK (bT hb)]
          refine sK h2 h3 (hC.at ?_)
          rw [p8] at hs
          rw [jh,List.getElem?_map,hs];rfl
        · cases h
      · cases h
    · cases h
  · cases h
 case store t x y =>
  simp only [O3] at h
  split at h
  · next b q hb =>
    split at h
    · next u cs hB =>
      obtain ⟨hC,hlo,hp⟩:=hH.box b u cs hB
      have fin:∀ (vs:List SV) (hq:q+vs.length≤cs.length) (hk:D9 vs=true),(∀ ρ,Cons ρ (gI α γ l)→(Instr.storeAt t (.pointer (some ⟨α b,q,none⟩)) (ρ y)).run P w = .ok () (w.setCells (α b) q (bZ α γ vs))) →
        Does P w0 l Γ α γ w ⟨dst,.store t x y,ty,pos,aft,gu⟩ none ((b,u,De cs q vs)::Ea B b):=fun vs hq hk hr=>by
       have hd:K6 (bZ α γ cs) q (bZ α γ vs)=bZ α γ (De cs q vs):=by rw [uT,Gn _ _ _ (by rw [iD,iD];exact hq)]
       have hX:=uu (N:=α b) (bZ α γ vs) q w
       have hC':=uo (bZ α γ vs) q hC
       rw [hd] at hC'
       refine ⟨α,_,fun ρ hρ=>?_,(hH.put b u cs (De cs q vs) hB hX hC' (by rw [uT];exact Df hp (lC hH.sc hk))).congr (VK B b _),rfl⟩
       show (Instr.storeAt t (ρ x) (ρ y) >>= fun _=>pure Next.skip).run P w=_
       rw [hρ.dK (bT hb),Sem.run_bind,show den α γ (.p b q) = .pointer (some ⟨α b,q,none⟩) from rfl,hr ρ hρ];rfl
      split at h
      · next vs hs =>
        split at h
        · next n hn =>
          split at h
          · next hf =>
            cases h
            simp only [Bool.and_eq_true] at hf
            obtain ⟨h1,h2⟩:=hT.size t n true hn
            have hl:=Nat.eq_of_beq_eq_true hf.1
            have hq:=Nat.le_of_ble_eq_true hf.2.1
            refine fin vs hq hf.2.2 fun ρ hρ=>?_
            rw [hρ.dK (bT hs)]
            exact EI hC q _ (by rw [iD,iD];exact hq) t (by rw [iD,hl];exact h1) fun v hv=>(lS (lC hH.sc hf.2.2 v hv)).1
          · cases h
        · cases h
      · cases h
      · next s hns hnt hs =>
        split at h
        · next hn =>
          split at h
          · next hf =>
            cases h
            rw [Bool.and_eq_true] at hf
            obtain ⟨h1,h2⟩:=hT.size t 1 false hn
            have hq:=Nat.le_of_ble_eq_true hf.1
            have hpl:=zG (α:=α) hH.sc hf.2
            refine fin [s] hq (by show (Xv s&&true)=true;rw [hf.2];rfl) fun ρ hρ=>?_
            rw [hρ.dK (bT hs)]
            exact RA h1 (lS hpl).1 (lS hpl).2 (hC.at (List.getElem?_eq_getElem (by rw [iD];exact hq))) (hC.frozen q)
          · cases h
        · cases h
      · cases h
    · cases h
  · cases h
end Go.Proofs.YtgcieamfidoaoaaGreatDoor.Rf
/- The walk: regions that draw nothing, calls, conditions, blocks, loops, the end. -/
namespace Go.Proofs.YtgcieamfidoaoaaGreatDoor.Rf
open Go Go.RowKit Go.Proofs.YtgcieamfidoaoaaGreatDoor.Pl
set_option maxRecDepth 100000
def jT (L:List Oper) (l:Fr):Option (Nat × Bool)→Option Bool
 | none=>some true
 | some (j,b)=>match nth L j with
  | none=>none
  | some oj=>match oj.dst with
   | none=>none
   | some d=>match lk l d with
    | some (.v (.bool c))=>some (c==b)
    | some (.v (.tuple _))=>some false
    | _=>none
theorem gy {L:List Oper} {l:Fr} {g:Option (Nat × Bool)} {b:Bool} (h:jT L l g=some b) (α:Env) (γ:kR):gd L (gI α γ l) g=some b:=by
 unfold gd
 cases g with
 | none=>exact h
 | some q =>
  obtain ⟨j,c⟩:=q
  simp only [jT] at h
  dsimp only
  cases ho:nth L j with
  | none=>rw [ho] at h;cases h
  | some oj =>
   rw [ho] at h
   dsimp only at h ⊢
   cases hd:oj.dst with
   | none=>rw [hd] at h;cases h
   | some d =>
    rw [hd] at h
    dsimp only at h ⊢
    rw [fJ]
    cases hl:lk l d with
    | none=>rw [hl] at h;cases h
    | some s =>
     rw [hl] at h
     cases s with
     | v x=>cases x<;>first | (cases h;done) | exact h
     | _=>cases h
abbrev nu:=List (Bool × Nat × Nat)
def Dh (T:TI) (L:List Oper):nu→Fr→Bx→Nat→nu × Fr × Bx × Nat
 | (false,i,m)::r,l,B,k=>match nth L i with
  | none=>((false,i,m)::r,l,B,k)
  | some o=>match jT L l o.guard with
   | none=>((false,i,m)::r,l,B,k)
   | some false=>match o.dst with
    | some d=>Dh T L r ((d,.v undef)::l) B k
    | none=>((false,i,m)::r,l,B,k)
   | some true=>match O3 T l B k o.op with
    | none=>((false,i,m)::r,l,B,k)
    | some (some s,B',k')=>match o.dst with
     | some d=>Dh T L r ((d,s)::l) B' k'
     | none=>((false,i,m)::r,l,B,k)
    | some (none,B',k')=>match o.dst with
     | none=>Dh T L r l B' k'
     | some _=>((false,i,m)::r,l,B,k)
 | r,l,B,k=>(r,l,B,k)
section
variable {P:Program} {Q:Exit→Act→World→Prop} {n:Nat} {ds:List Deferred} {w0:World} {cs:List Code} {l:Fr} {B:Bx} {Γ:Gm}
def HV (P:Program) (Q:Exit→Act→World→Prop) (n:Nat) (ds:List Deferred) (w0:World) (cs:List Code) (l:Fr) (B:Bx) (Γ:Gm):Prop :=
 ∀ α γ w,Holds w0 B Γ α γ w→V P Q n ds cs (gI α γ l) w
def HA (P:Program) (Q:Exit→Act→World→Prop) (n:Nat) (ds:List Deferred) (w0:World) (cs:List Code) (L:List Oper) (r:nu) (l:Fr) (B:Bx) (Γ:Gm):Prop :=
 ∀ α γ w,Holds w0 B Γ α γ w→fF P L (fun _=>True) (V P Q n ds cs) r (gI α γ l) w
theorem gK {L:List Oper} (h:HV P Q n ds w0 cs l B Γ):HA P Q n ds w0 cs L [] l B Γ:=h
theorem qm (α:Env) (γ:kR) (d:Nat) (s:SV) (l:Fr):gI α γ ((d,s)::l)=(d,den α γ s)::gI α γ l:=rfl
theorem Gp {T:TI} (hT:E8 P T) {L:List Oper}:∀ (r:nu) {l:Fr} {B:Bx} {k:Nat},HA P Q n ds w0 cs L (Dh T L r l B k).1 (Dh T L r l B k).2.1 (Dh T L r l B k).2.2.1 Γ→HA P Q n ds w0 cs L r l B Γ
 | [],l,B,k,h=>h
 | (true,i,m)::r,l,B,k,h=>h
 | (false,i,m)::r,l,B,k,h=>by
  unfold Dh at h
  split at h
  · exact h
  · next o ho =>
    split at h
    · exact h
    · next hg =>
      split at h
      · next d hd =>
        intro α γ w hH
        exact jP ho hd (gy hg α γ) (Gp hT r h α γ w hH)
      · exact h
    · next hg =>
      split at h
      · exact h
      · next s B' k' hx =>
        split at h
        · next d hd =>
          intro α γ w hH
          obtain ⟨α',w',hr,DF,he⟩:=Sw hT hH hx
          have h2:=Gp hT r h α' γ w' DF
          rw [qm,he] at h2
          exact kP ho hd (gy hg α γ) hr trivial h2
        · exact h
      · next B' k' hx =>
        split at h
        · next hd =>
          intro α γ w hH
          obtain ⟨α',w',hr,DF,he⟩:=Sw hT hH hx
          have h2:=Gp hT r h α' γ w' DF
          rw [he] at h2
          exact RJ ho hd (gy hg α γ) hr trivial h2
        · exact h
theorem ay {T:TI} (hT:E8 P T) {L:List Oper} {r r':nu} {l':Fr} {B':Bx} (k:Nat) {k':Nat} (e:Dh T L r l B k=(r',l',B',k')) (h:HA P Q n ds w0 cs L r' l' B' Γ):HA P Q n ds w0 cs L r l B Γ :=
 Gp hT (k:=k) r (by rw [e];exact h)
theorem dH {id:Nat} {L:List Oper} (hk:rZ n L=true) (h:HA P Q n ds w0 cs L (Py 0 L) l B Γ):HV P Q n ds w0 (.region id L.toArray false::cs) l B Γ:=fun α γ w hH=>aB hk (h α γ w hH)
theorem aO {x y:Code} (h:HV P Q n ds w0 (x::y::cs) l B Γ):HV P Q n ds w0 (.seq x y::cs) l B Γ:=fun α γ w hH=>aG (h α γ w hH)
theorem pQ (h:HV P Q n ds w0 cs l B Γ):HV P Q n ds w0 (.skip::cs) l B Γ:=fun α γ w hH=>iT (h α γ w hH)
theorem pR {c:Operand} {x y:Code} (hc:ev l c=some (.v (.bool true))) (h:HV P Q n ds w0 (x::cs) l B Γ):HV P Q n ds w0 (.cond c x y::cs) l B Γ:=fun α γ w hH=>jV (bT hc) (h α γ w hH)
theorem kv {c:Operand} {x y:Code} (hc:ev l c=some (.v (.bool false))) (h:HV P Q n ds w0 (y::cs) l B Γ):HV P Q n ds w0 (.cond c x y::cs) l B Γ:=fun α γ w hH=>gX (bT hc) (h α γ w hH)
theorem bf {id:Nat} {b:Code} (h:HV P (Exit.inBlock id (Ks P Q cs)) n ds w0 [b] l B Γ):HV P Q n ds w0 (.block id b::cs) l B Γ:=fun α γ w hH=>ko (h α γ w hH)
theorem aZ {id:Nat} (h:HV P Q n ds w0 cs l B Γ):HV P (Exit.inBlock id (Ks P Q cs)) n ds w0 [] l B Γ:=fun α γ w hH=>iU (h α γ w hH)
theorem og {id:Nat} {cs':List Code} {N:Act→World→Prop} (h:HV P Q n ds w0 cs l B Γ):HV P (Exit.then N (Ks P (Exit.inBlock id (Ks P Q cs)) [])) n ds w0 (.exit id::cs') l B Γ:=fun α γ w hH=>tO (h α γ w hH)
theorem Cc {L:List Oper} {r:nu} {i m d:Nat} {o:Oper} {x y:Operand} {op:BinOp} {tx ty:TypeId} {u u' v:Value} (hr:∀ X,Bn P op tx x y u u' X = .ok v X) (ho:nth L i=some o) (hop:o.op = .binOp op tx x y ty) (hd:o.dst=some d) (hg:jT L l o.guard=some true) (hx:ev l x=some (.v u)) (hy:ev l y=some (.v u'))
 (h:HA P Q n ds w0 cs L r ((d,.v v)::l) B Γ):HA P Q n ds w0 cs L ((false,i,m)::r) l B Γ:=fun α γ w hH=>Vl hr trivial ho hop hd (gy hg α γ) (bT hx) (bT hy) (h α γ w hH)
theorem sJ {L:List Oper} {r:nu} {i m d:Nat} {o:Oper} (s:SV) (ho:nth L i=some o) (hd:o.dst=some d) (hg:jT L l o.guard=some true)
  (hx:∀ α γ w,Holds w0 B Γ α γ w→∀ ρ,Cons ρ (gI α γ l)→(execOp ρ o).run P w = .ok (.value (den α γ s)) w) (h:HA P Q n ds w0 cs L r ((d,s)::l) B Γ):HA P Q n ds w0 cs L ((false,i,m)::r) l B Γ :=
 fun α γ w hH=>kP ho hd (gy hg α γ) (hx α γ w hH) trivial (h α γ w hH)
theorem gU {L:List Oper} {r:nu} {i m d:Nat} {o:Oper} (s:SV) (ho:nth L i=some o) (hd:o.dst=some d) (hg:jT L l o.guard=some true) (hk:∀ α γ,known (gI α γ l) o.op=true)
  (he:∀ α γ X,(execOp (JQ (gI α γ l)) o).run P X = .ok (.value (den α γ s)) X) (h:HA P Q n ds w0 cs L r ((d,s)::l) B Γ):HA P Q n ds w0 cs L ((false,i,m)::r) l B Γ :=
 sJ s ho hd hg (fun α γ w _ ρ hρ=>by rw [jI hρ (hk α γ)];exact he α γ w) h
structure RS where
 R:World→(Nat→Value)→Prop
 keep:∀ {w w':World} {f:Nat→Value},R w f→w.heap.size≤w'.heap.size→(∀ k,k<w.heap.size→w'.heap[k]?=w.heap[k]?∨Ei w k)→R w' f
def RS.S (r:RS):Spec where
 P X w f:=r.R w f∧∀ k,X k→Ei w k
 keep:=fun {X w w' f} ⟨h1,_⟩ hs hk hn hn'=>⟨r.keep h1 hs fun k hk'=>by
  by_cases hX:X k
  · exact .inr (hn k hX)
  · exact .inl (hk k hk' hX),hn'⟩
 grow:=fun ⟨h1,_⟩ _ hn=>⟨h1,hn⟩
theorem Holds.r {α:Env} {γ:kR} {w:World} (h:Holds w0 B Γ α γ w) (g:Nat) {S:RS} (e:lW Γ g=some S.S):S.R w (γ g):=(h.fact g _ e).1
theorem Holds.noU {α:Env} {γ:kR} {w:World} (h:Holds w0 B Γ α γ w):∀ k,own B α k→Ei w k:=fun k hk=>(h.mE hk).2.2
def fresh (g:Nat) (l:Fr) (B:Bx) (Γ:Gm):Bool:=D8 g l&&(Db g B&&(match lW Γ g with
 | none=>true
 | some _=>false))
theorem mM {g:Nat} (h:fresh g l B Γ=true):D8 g l=true∧Db g B=true∧lW Γ g=none:=by
 unfold fresh at h
 rw [Bool.and_eq_true,Bool.and_eq_true] at h
 refine ⟨h.1,h.2.1,?_⟩
 cases e:lW Γ g with
 | none=>rfl
 | some _=>rw [e] at h;exact absurd h.2.2 (by simp)
theorem VL {X:Type} {L:List Oper} {r:nu} {i m d:Nat} {o:Oper} {f:FuncId} {xs:List Operand} {ats:Array TypeId} {ss:List SV} (g:Nat) (S:X→RS) (res:X→SV) (p:X→Prop)
  (ho:nth L i=some o) (hop:o.op = .call { callee:=.value (.func f),args:=xs.toArray,argTypes:=ats }) (hd:o.dst=some d) (hg:jT L l o.guard=some true) (hx:evs l xs=some ss) (hfr:fresh g l B Γ=true) (hf:∀ (u:Array Value) X,(callFunc f u).run P X = .ok (.enter f u) X)
  (BM:∀ α γ w,Holds w0 B Γ α γ w→Calls P f (bZ α γ ss).toArray w (fun e w'=>∃ x F,(∀ k,bG (F k)=true)∧e = .returned (den α (upd γ g F) (res x))∧(S x).R w' F∧p x∧Ex w w'))
  (h:∀ x,p x→HA P Q n ds w0 cs L r ((d,res x)::l) B ((g,(S x).S)::Γ)):HA P Q n ds w0 cs L ((false,i,m)::r) l B Γ:=fun α γ w hH=>by
 obtain ⟨h1,h2,h3⟩:=mM hfr
 refine bX ho hop hd (gy hg α γ) (xz hx) hf (Calls.mono (BM α γ w hH) ?_)
 rintro e w' ⟨x,F,hF,rfl,hR,hp,hE⟩
 have DF:=hH.ext hE
 have hA:=h x hp α (upd γ g F) w' (DF.add g (S x).S F h2 hF ⟨hR,DF.noU⟩ h3)
 rw [qm,mO l h1] at hA
 exact ⟨_,rfl,trivial,hA⟩
def Zw:Nat→List SV→Fr
 | _,[]=>[]
 | i,s::ss=>(i,s)::Zw (i+1) ss
theorem Jl (α:Env) (γ:kR):∀ (ss:List SV) (i:Nat),gI α γ (Zw i ss)=OD i (bZ α γ ss)
 | [],_=>rfl
 | s::ss,i=>by show (_,_)::_=(_,_)::_;rw [Jl α γ ss (i+1)]
def mkγ (vs:List (List Value)):kR:=fun g k=>(qL ((qL vs g).getD []) k).getD (.bool false)
def Sy:List (List Value)→Bool
 | []=>true
 | x::l=>x.all bG&&Sy l
theorem O4:∀ {vs:List (List Value)},Sy vs=true→∀ g k,bG (mkγ vs g k)=true:=by
 intro vs h g k
 unfold mkγ
 have key:∀ (vs:List (List Value)) (g:Nat),Sy vs=true→∀ x∈(qL vs g).getD [],bG x=true:=by
  intro vs
  induction vs with
  | nil=>intro g _ x hx;simp [qL] at hx
  | cons y vs ih =>
   intro g h x hx
   have h1:(y.all bG&&Sy vs)=true:=h
   rw [Bool.and_eq_true,List.all_eq_true] at h1
   cases g with
   | zero=>exact h1.1 x (by simpa [qL] using hx)
   | succ g=>exact ih g h1.2 x (by simpa [qL] using hx)
 cases hn:qL ((qL vs g).getD []) k with
 | none=>rfl
 | some x =>
  rw [p8] at hn
  exact key vs g h x (List.mem_of_getElem? hn)
def Fcs (X:Nat→Prop) (w:World) (γ:kR):Gm→Prop
 | []=>True
 | (g,S)::l=>S.P X w (γ g)∧Fcs X w γ l
theorem SA {X:Nat→Prop} {w:World} {γ:kR}:∀ {Γ:Gm},Fcs X w γ Γ→∀ g S,lW Γ g=some S→S.P X w (γ g)
 | [],_,_,_,h=>by cases h
 | (g',S')::l,hF,g,S,h=>by
  unfold lW at h
  cases hb:Nat.beq g' g with
  | true =>
   rw [hb] at h
   obtain rfl:=Nat.eq_of_beq_eq_true hb
   cases h
   exact hF.1
  | false=>rw [hb] at h;exact SA hF.2 g S h
theorem RS.in {S:RS} {w:World} {f:Nat→Value} {α:Env} (h:S.R w f):S.S.P (own [] α) w f:=⟨h,fun k ⟨_,⟨_,hx⟩,_⟩=>by cases hx⟩
theorem aA {f:FuncId} {fn:Func} {c:Code} {R:Ending→World→Prop} {w:World} (ss:List SV) (vs:List (List Value)) (Γ:Gm) (hf:P.funcs[f]?=some fn) (hb:fn.body=some c) (hn:Nat.beq fn.ntmps n=true) (hle:Nat.ble ss.length n=true) (hp:Sy vs=true) (hF:Fcs (own [] (fun _=>0)) w (mkγ vs) Γ)
  (h:HV P (bodyPost P fn R) n [] w [c] (Zw 0 ss) [] Γ):Calls P f (bZ (fun _=>0) (mkγ vs) ss).toArray w R:=by
 refine dF hf hb hn (by rw [iD];exact hle) ?_
 rw [← Jl]
 exact h _ _ w ⟨Ex.refl w,fun b T cs hb=>(by cases hb),fun b b' h1=>(by obtain ⟨x,hx⟩:=h1;cases hx),O4 hp,SA hF⟩
def VM (T:TI) (l:Fr) (B:Bx):ResultVar→Option SV
 | .tmp t=>lk l t
 | .cell a t=>match lk l a with
  | some (.p b 0)=>match jU B b with
   | some (_,cs)=>match T.size t with
    | some (n,true)=>match Nat.beq cs.length n with
     | true=>some (.a cs)
     | false=>none
    | some (_,false)=>qL cs 0
    | none=>none
   | none=>none
  | _=>none
def SB (T:TI) (l:Fr) (B:Bx):List ResultVar→Option (List SV)
 | []=>some []
 | x::xs=>match VM T l B x with
  | none=>none
  | some s=>match SB T l B xs with
   | none=>none
   | some ss=>some (s::ss)
def SC (tmps:Array Value):ResultVar→Sem Value
 | .tmp t=>pure (tmps.getD t undef)
 | .cell b t=>do loadVar t (← asAddr (tmps.getD b undef))
theorem SE {T:TI} (hT:E8 P T) {α:Env} {γ:kR} {w:World} (hH:Holds w0 B Γ α γ w) {a:Act} (ha:Ag n ds a (gI α γ l)) {x:ResultVar} {s:SV} (h:VM T l B x=some s) :
  (SC a.tmps x).run P w = .ok (den α γ s) w:=by
 cases x with
 | tmp t =>
  have e:a.tmps.getD t undef=den α γ s:=by
   rw [Array.getD_eq_getD_getElem?,ha.look t (den α γ s) (by rw [fJ,show lk l t=some s from h];rfl)];rfl
  show (pure (a.tmps.getD t undef):Sem Value).run P w=_
  rw [e];rfl
 | cell b t =>
  simp only [VM] at h
  split at h
  · next q hq =>
    have e:a.tmps.getD b undef = .pointer (some ⟨α q,0,none⟩):=by
     rw [Array.getD_eq_getD_getElem?,ha.look b (den α γ (.p q 0)) (by rw [fJ,hq];rfl)];rfl
    split at h
    · next u cs hB =>
      obtain ⟨hC,_,_⟩:=hH.box q u cs hB
      have ld:∀ (v:Value),(Instr.loadAt t (.pointer (some ⟨α q,0,none⟩))).run P w = .ok v w→(SC a.tmps (.cell b t)).run P w = .ok v w:=fun v hv=>by
       show (do loadVar t (← asAddr (a.tmps.getD b undef)):Sem Value).run P w=_
       rw [e]
       simpa [Instr.loadAt,Instr.sureAddr,asAddr] using hv
      split at h
      · next m hm =>
        split at h
        · next hl =>
          obtain rfl:=Option.some.inj h
          obtain ⟨h1,dd,h2,h3⟩:=hT.size t m true hm
          have hl':=Nat.eq_of_beq_eq_true hl
          exact ld _ (hC.load (o:=0) (part:=bZ α γ cs) (by rw [List.drop_zero,List.take_length]) h2 h3 (by rw [iD,hl'];exact h1))
        · cases h
      · next m hm =>
        obtain ⟨h1,dd,h2,h3⟩:=hT.size t m false hm
        refine ld _ (sK h2 h3 (hC.at ?_))
        rw [p8] at h
        rw [jh,List.getElem?_map,h];rfl
      · cases h
    · cases h
  · cases h
theorem Jm {T:TI} (hT:E8 P T) {α:Env} {γ:kR} {w:World} (hH:Holds w0 B Γ α γ w) {a:Act} (ha:Ag n ds a (gI α γ l)):∀ {xs:List ResultVar} {ss:List SV},SB T l B xs=some ss →
  (xs.mapM (SC a.tmps)).run P w = .ok (bZ α γ ss) w
 | [],ss,h=>by obtain rfl:=Option.some.inj h;rfl
 | x::xs,ss,h=>by
  unfold SB at h
  cases hx:VM T l B x with
  | none=>rw [hx] at h;cases h
  | some s =>
   rw [hx] at h
   cases hxs:SB T l B xs with
   | none=>rw [hxs] at h;cases h
   | some us =>
    rw [hxs] at h
    obtain rfl:=Option.some.inj h
    rw [List.mapM_cons,Sem.run_bind,SE hT hH ha hx]
    simp only [Result.andThen_ok,Sem.run_bind,Jm hT hH ha hxs]
    rfl
def tup:List SV→SV
 | [s]=>s
 | l=>.t l
theorem aI {T:TI} (hT:E8 P T) {fn:Func} {R:Ending→World→Prop} {xs:List ResultVar} {ss:List SV} (hQ:∀ a w,bodyPost P fn R .ret a w→Q .ret a w) (hr:fn.results=xs.toArray) (hs:SB T l B xs=some ss) (h:∀ α γ w,Holds w0 B Γ α γ w→R (.returned (den α γ (tup ss))) w):HV P Q n [] w0 (.ret::cs) l B Γ:=fun α γ w hH=>Ah fun a ha=>hQ a w (by
 refine ⟨ha.defers,den α γ (tup ss),?_,h α γ w hH⟩
 have h1:=Jm hT hH ha hs
 have h0:results fn a.tmps=(fn.results.mapM (SC a.tmps) >>= fun vs=>pure (if h:vs.size=1 then vs[0] else .tuple vs)):=rfl
 rw [h0,hr]
 have h2:((xs.toArray).mapM (SC a.tmps)).run P w = .ok (bZ α γ ss).toArray w:=by
  rw [List.mapM_toArray,Sem.run_map,h1];rfl
 rw [Sem.run_bind,h2]
 have hd:∀ l:List Value,(if h:l.toArray.size=1 then l.toArray[0] else .tuple l.toArray)=(match l with | [x]=>x | l=>.tuple l.toArray):=by
  intro l
  match l with
  | []=>rfl
  | [x]=>rfl
  | x::y::l=>simp
 show Result.ok _ w=_
 rw [hd]
 congr 1
 match ss with
 | []=>rfl
 | [x]=>rfl
 | x::y::l=>rfl)
end
end Go.Proofs.YtgcieamfidoaoaaGreatDoor.Rf
