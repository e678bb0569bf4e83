/- Base. -/
import Derived.Test.YtgcieamfidoaoaaGreatDoorGab
import Derived.Laws.EntriesVeiled
import Derived.Deep.AppendSrc
import Derived.Lib.AppendZeros
import Derived.Laws.IdiomStrings
import Derived.Laws.StructEq
import Derived.RangeFuncSeq
import Derived.RangeFuncLeaves
import Derived.OrdersIn
import Derived.TacticsIn
set_option linter.all false
set_option maxHeartbeats 8000000
set_option maxRecDepth 100000
namespace Go.Proofs.YtgcieamfidoaoaaGreatDoor
namespace Pl
open Go Go.RowKit
def aS (a b:World):Prop:=Below a.heap.size a b
theorem aS.refl (w:World):aS w w:=Below.refl _ _
theorem aS.trans {a b c:World} (h:aS a b) (k:aS b c):aS a c:=Below.trans h (Below.mono k (Below.size h))
theorem aS.size {a b:World} (h:aS a b):a.heap.size≤b.heap.size:=Below.size h
theorem aS.alloc (w:World) (x:Obj):aS w (w.alloc x):=Below.alloc (Below.refl _ w) (Nat.le_refl _) x
theorem aS.drew (w:World):aS w w.drew:=Below.drew (Below.refl _ w)
structure Xs (Bs:List Nat) (w w':World):Prop where
 os:w'.os=w.os
 tape:w'.tape=w.tape
 output:w'.output=w.output
 size:w.heap.size≤w'.heap.size
 block:∀ k,k<w.heap.size→k∉Bs→w'.heap[k]?=w.heap[k]?
theorem Xs.ex {Bs:List Nat} {w w':World} (h:aS w w'):Xs Bs w w':=⟨h.os,h.tape,h.output,h.size,fun k hk _=>h.block k hk⟩
theorem Xs.trans {Bs:List Nat} {a b c:World} (h:Xs Bs a b) (k:Xs Bs b c):Xs Bs a c :=
 ⟨k.os.trans h.os,k.tape.trans h.tape,k.output.trans h.output,Nat.le_trans h.size k.size,fun i hi hn=>(k.block i (Nat.lt_of_lt_of_le hi h.size) hn).trans (h.block i hi hn)⟩
theorem aS.xs {w0 w w':World} {N:Nat} (h:aS w0 w) (k:Xs [N] w w') (hN:w0.heap.size≤N):aS w0 w' :=
 ⟨k.os.trans h.os,k.tape.trans h.tape,k.output.trans h.output,Nat.le_trans h.size k.size,fun i hi=>(k.block i (Nat.lt_of_lt_of_le hi h.size) (by simp;omega)).trans (h.block i hi)⟩
def Cb (w:World) (N:Nat) (T:TypeId) (cs:List Value):Prop:=w.heap[N]?=some (.cells cs.toArray T (0,0))
theorem Cb.lt {w:World} {N:Nat} {T:TypeId} {cs:List Value} (h:Cb w N T cs):N<w.heap.size:=(Array.getElem?_eq_some_iff.1 h).1
theorem Cb.ex {w w':World} {N:Nat} {T:TypeId} {cs:List Value} (h:Cb w N T cs) (k:aS w w'):Cb w' N T cs:=(k.block N h.lt).trans h
theorem Cb.xs {w w':World} {N:Nat} {T:TypeId} {cs:List Value} {Bs:List Nat} (h:Cb w N T cs) (k:Xs Bs w w') (hn:N∉Bs):Cb w' N T cs:=(k.block N h.lt hn).trans h
theorem Cb.new (w:World) (T:TypeId) (cs:List Value):Cb (w.alloc (.cells cs.toArray T)) w.heap.size T cs:=_root_.Go.heap_alloc_new w _
theorem Cb.at {w:World} {N:Nat} {T:TypeId} {cs:List Value} {v:Value} (h:Cb w N T cs) {j:Nat} (hj:cs[j]?=some v):w.cell? ⟨N,j,none⟩=some v:=by rw [cell_of_row w N j cs.toArray T (0,0) h];simpa using hj
theorem Cb.frozen {w:World} {N:Nat} {T:TypeId} {cs:List Value} (h:Cb w N T cs) (j:Nat):w.frozen? ⟨N,j,none⟩=false:=by unfold Cb at h;simp [World.frozen?,h]
theorem Cb.put {w:World} {N:Nat} {T:TypeId} {cs:List Value} (h:Cb w N T cs) (new:List Value):Cb (w.setRow N new.toArray) N T new:=setRow_heap w N _ _ T _ h
theorem Xs.put (w:World) (N:Nat) (new:Array Value):Xs [N] w (w.setRow N new):=⟨by simp,by simp,by simp,by simp,fun k _ hn=>setRow_other w N k new (by simpa using hn)⟩
section
variable {P:Program}
theorem Cb.load {w:World} {N:Nat} {T:TypeId} {cs:List Value} (h:Cb w N T cs) {o:Nat} {part:List Value} (hp:(cs.drop o).take part.length=part) {ty:TypeId} {d:TypeDesc} (hu:P.underlying ty=some d) (hd:d.isRow=true) (hi:(P.info? ty).map (·.size)=some part.length) :(Instr.loadAt ty (.pointer (some ⟨N,o,none⟩))).run P w = .ok (.agg part.toArray) w :=
 run_loadAt_mid w N o ty part d (by
  have:=World.rangeAt_of_block h o part.length;have e:(cs.toArray.extract o (o+part.length)).toList=part:=by rw [Array.toList_extract,List.extract_eq_take_drop,Nat.add_sub_cancel_left];exact hp
  rwa [e] at this) hu hd hi
theorem Cb.store {w:World} {N:Nat} {T:TypeId} {cs:List Value} (h:Cb w N T cs) {ty:TypeId} {new:List Value} (hi:(P.info? ty).map (·.size)=some new.length) (hl:cs.length=new.length) (h1:∀ v∈new,v.oneCell'=true) :(Instr.storeAt ty (A0a N) (.agg new.toArray)).run P w = .ok () (w.setRow N new.toArray):=by simp only [Instr.storeAt,Instr.sureAddr,Sem.run_bind,Sem.run_pure,Result.andThen_ok];exact run_storeVar_row w N T ty cs.toArray new.toArray h (by simpa using hi) (by simpa using hl) (all_oneCell_toArray h1)
theorem WC {w:World} {ty:TypeId} {a:Addr} {v old:Value} (hi:(P.info? ty).map (·.size)=some 1) (h1:v.oneCell'=true) (hv:v.cells=#[v]) (hc:w.cell? a=some old) (hf:w.frozen? a=false) :(Instr.storeAt ty (.pointer (some a)) v).run P w = .ok () (w.setCell a v):=by
 obtain ⟨inf,hi0,hz⟩:=Option.map_eq_some_iff.1 hi;have e:a.add 0=a:=by simp [Addr.add]
 simp [Instr.storeAt,Instr.sureAddr,storeVar,sizeOf,typeInfo,hi0,hz,hv,storeCells,Result.andThen,run_store P w _ v _ h1,e,hc,hf]
end
theorem Cb.set {w:World} {N:Nat} {T:TypeId} {cs:List Value} (h:Cb w N T cs) (j:Nat) (v:Value):Cb (w.setCell ⟨N,j,none⟩ v) N T (cs.set j v):=by have:=heap_setCell_same w N j _ _ v h;unfold Cb;rw [this,List.setIfInBounds_toArray]
theorem Xs.set (w:World) (N j:Nat) (v:Value):Xs [N] w (w.setCell ⟨N,j,none⟩ v):=⟨by simp [World.setCell],by simp [World.setCell],by simp [World.setCell],by simp [World.setCell],fun k _ hn=>Below.heap_setCell w ⟨N,j,none⟩ v k (by simpa using hn)⟩
section
variable {P:Program} {L:List Oper} {S:World→Prop} {K:List (Nat × Value)→World→Prop} {k:Bool} {i m d:Nat} {o:Oper} {x y:Operand} {r:List (Bool × Nat × Nat)} {l:List (Nat × Value)} {w w':World} {v:Value}
theorem nC {T:TypeId} {z:Value} (hz:(P.info? T).map (fun i=>i.zero)=some (some z)) (ho:nth L i=some o) (hp:o.op = .alloc T) (hd:o.dst=some d) (hg:gd L l o.guard=some true) (hS:∀ Y,aS w Y→S Y) (h:∀ N w',aS w w'→N=w.heap.size→Cb w' N T z.cells.toList→iP P L S K r ((d,A0a N)::l) w'):iP P L S K ((false,i,m)::r) l w:=by
 have e1:=aS.alloc w (.cells z.cells T)
 have h0:(zeroValue T).run P w = .ok z w:=by
  cases hq:P.info? T with
  | none=>simp [hq] at hz
  | some i=>simp [hq] at hz;simp [zeroValue,typeInfo,hq,hz]
 refine Gn ho hp hd hg (w':=w.alloc (.cells z.cells T)) (by simp [Instr.alloc,Sem.run_bind,h0,newVar,newRow]) (hS _ e1) (h _ _ e1 rfl ?_);have:=Cb.new w T z.cells.toList;simpa using this
theorem pU {T:TypeId} {u:Value} {cs:List Value} (ho:nth L i=some o) (hp:o.op = .box T x) (hd:o.dst=some d) (hg:gd L l o.guard=some true) (hx:fO l x=some u) (hc:u.cells=cs.toArray) (hS:∀ Y,aS w Y→S Y) (h:∀ N w',aS w w'→N=w.heap.size→Cb w' N T cs→iP P L S K r ((d,A0a N)::l) w'):iP P L S K ((false,i,m)::r) l w:=by have e1:=aS.alloc w (.cells cs.toArray T);refine l8 (w':=w.alloc (.cells cs.toArray T)) (v:=A0a w.heap.size) ho hd hg (fun ρ hρ=>?_) (hS _ e1) (h _ _ e1 rfl (Cb.new w T cs));unfold execOp;rw [hp];refine uA _ ?_;rw [hρ.fO hx];simp [Instr.box,Sem.run_bind,newVar,newRow,hc]
theorem Qj {e:TypeId} {n:Nat} (cs:List Value) (ho:nth L i=some o) (hd:o.dst=some d) (hg:gd L l o.guard=some true) (hk:known l o.op=true) (he:(execOp (LC l) o).run P w = .ok (.value (.slice (some ⟨w.heap.size,0,none⟩) n n)) (w.alloc (.cells cs.toArray e))) (hS:∀ Y,aS w Y→S Y) (h:∀ N w',aS w w'→N=w.heap.size→Cb w' N e cs→iP P L S K r ((d,.slice (some ⟨N,0,none⟩) n n)::l) w'):iP P L S K ((false,i,m)::r) l w :=
 ac5 _ _ ho hd hg hk he (hS _ (aS.alloc w _)) (h _ _ (aS.alloc w _) rfl (Cb.new w e cs))
theorem l6 {N:Nat} {T ty:TypeId} {cs new:List Value} (hC:Cb w N T cs) (hi:(P.info? ty).map (·.size)=some new.length) (hl:cs.length=new.length) (h1:∀ v∈new,v.oneCell'=true) (ho:nth L i=some o) (hp:o.op = .store ty x y) (hd:o.dst=none) (hg:gd L l o.guard=some true) (hx:fO l x=some (A0a N)) (hy:fO l y=some (.agg new.toArray)) (hS:∀ Y,Xs [N] w Y→S Y) (h:∀ w',Xs [N] w w'→Cb w' N T new→iP P L S K r l w'):iP P L S K ((false,i,m)::r) l w :=
 gz ho hp hd hg hx hy (hC.store hi hl h1) (hS _ (Xs.put w N _)) (h _ (Xs.put w N _) (hC.put new))
theorem Mc {N q:Nat} {T ty:TypeId} {dd:TypeDesc} {cs part:List Value} (hC:∀ X,S X→Cb X N T cs) (hp':(cs.drop q).take part.length=part) (hu:P.underlying ty=some dd) (hdd:dd.isRow=true) (hi:(P.info? ty).map (·.size)=some part.length) (hS:S w) (ho:nth L i=some o) (hp:o.op = .load ty x) (hd:o.dst=some d) (hg:gd L l o.guard=some true) (hx:fO l x=some (.pointer (some ⟨N,q,none⟩))) (h:iP P L S K r ((d,.agg part.toArray)::l) w):iP P L S K ((k,i,m)::r) l w:=jo hS ho hp hd hg hx (fun X hX=>(hC X hX).load hp' hu hdd hi) h
theorem lm {N q:Nat} {T ty:TypeId} {dd:TypeDesc} {cs part:List Value} (hC:Cb w N T cs) (hp':(cs.drop q).take part.length=part) (hu:P.underlying ty=some dd) (hdd:dd.isRow=true) (hi:(P.info? ty).map (·.size)=some part.length) (hS:S w) (ho:nth L i=some o) (hp:o.op = .load ty x) (hd:o.dst=some d) (hg:gd L l o.guard=some true) (hx:fO l x=some (.pointer (some ⟨N,q,none⟩))) (h:iP P L S K r ((d,.agg part.toArray)::l) w):iP P L S K ((false,i,m)::r) l w:=bH hS ho hp hd hg hx (hC.load hp' hu hdd hi) h
end
open Go
abbrev WF (ro:Option Nat):Fence:={ Fence.wide with round:=ro }
theorem MS {ro:Option Nat} {n:Nat} {P:Program} {f:FuncId} {args:Array Value} {w:World} {R:Ending→World→Prop}:CallsIn (WF ro) n P f args w R↔Calls P f args w R:=callsIn_wide (n:=n)
def ZQ (P:Program) (ro:Option Nat) (Q:Exit→Act→World→Prop):List Code→Exit→Act→World→Prop
 | []=>Q
 | c::cs=>Exit.then (c.wpIn (WF ro) 0 P (ZQ P ro Q cs)) (ZQ P ro Q cs)
def VI (P:Program) (Q:Exit→Act→World→Prop) (ro:Option Nat) (n:Nat) (ds:List Deferred) (cs:List Code) (l:List (Nat × Value)) (w:World):Prop :=
 ∀ a,Ag n ds a l→ZQ P ro Q cs .normal a w
theorem Gv {P:Program} {Q:Exit→Act→World→Prop}:∀ (cs:List Code) (e:Exit) (a:Act) (w:World),ZQ P none Q cs e a w↔Ks P Q cs e a w
 | [],e,a,w=>Iff.rfl
 | c::cs,e,a,w=>by
  have ih:=Gv (P:=P) (Q:=Q) cs;cases e with
  | normal =>show c.wpIn Fence.wide 0 P (ZQ P none Q cs) a w↔c.wp P (Ks P Q cs) a w;rw [wpIn_wide];exact ⟨fun h=>wp_mono h fun e a w h=>(ih e a w).1 h,fun h=>wp_mono h fun e a w h=>(ih e a w).2 h⟩
  | _=>exact ih _ a w
section
variable {P:Program} {Q:Exit→Act→World→Prop} {ro:Option Nat} {n:Nat} {ds:List Deferred} {cs:List Code} {l:List (Nat × Value)} {w:World} {x y:Code}
theorem Kl (h:V P Q n ds cs l w):VI P Q none n ds cs l w:=fun a ha=>(Gv _ _ _ _).2 (h a ha)
theorem QJ (h:VI P Q none n ds cs l w):V P Q n ds cs l w:=fun a ha=>(Gv _ _ _ _).1 (h a ha)
theorem QK:∀ {cs:List Code} {a:Act} {w:World},Q .ret a w→ZQ P ro Q cs .ret a w
 | [],_,_,h=>h
 | _::cs,_,_,h=>QK (cs:=cs) h
theorem mR (h:VI P Q ro n ds (x::y::cs) l w):VI P Q ro n ds (.seq x y::cs) l w:=fun a ha=>wpIn_seq (h a ha)
theorem QB (h:VI P Q ro n ds cs l w):VI P Q ro n ds (.skip::cs) l w:=fun a ha=>wpIn_skip (h a ha)
theorem ZC {c:Operand} (hc:fO l c=some (.bool true)) (h:VI P Q ro n ds (x::cs) l w):VI P Q ro n ds (.cond c x y::cs) l w:=fun a ha=>wpIn_cond_true (ha.cons.fO hc) (h a ha)
theorem MF {c:Operand} (hc:fO l c=some (.bool false)) (h:VI P Q ro n ds (y::cs) l w):VI P Q ro n ds (.cond c x y::cs) l w:=fun a ha=>wpIn_cond_false (ha.cons.fO hc) (h a ha)
theorem acX (h:∀ a,Ag n ds a l→Q .ret a w):VI P Q ro n ds (.ret::cs) l w:=fun a ha=>wpIn_ret (QK (h a ha))
theorem OH (h:∀ a,Ag n ds a l→Q .normal a w):VI P Q ro n ds [] l w:=h
theorem Wq {id:Nat} {b:Code} (h:VI P (Exit.inBlock id (ZQ P ro Q cs)) ro n ds [b] l w):VI P Q ro n ds (.block id b::cs) l w:=fun a ha=>wpIn_block (h a ha)
theorem Dx {id:Nat} (h:VI P Q ro n ds cs l w):VI P (Exit.inBlock id (ZQ P ro Q cs)) ro n ds [] l w:=fun a ha=>h a ha
theorem QL {id:Nat}:∀ {cs:List Code} {a:Act} {w:World},Q (.exit id) a w→Ks P Q cs (.exit id) a w
 | [],_,_,h=>h
 | _::cs,_,_,h=>QL (cs:=cs) h
theorem OE {id:Nat} {cs':List Code} (h:V P Q n ds cs l w):V P (Exit.inBlock id (Ks P Q cs)) n ds (.exit id::cs') l w:=fun a ha=>wp_exit (by refine QL ?_;show (if id=id then Ks P Q cs .normal a w else _);rw [if_pos rfl];exact h a ha)
def SG (P:Program) (Q:Exit→Act→World→Prop) (n:Nat) (ds:List Deferred) (cs:List Code) (c:Code):Nat→List (Nat × Value)→World→Prop
 | 0,l,w=>V P (Exit.then (fun _ _=>False) (Ks P Q cs)) n ds [c] l w
 | k+1,l,w=>V P (Exit.then (fun a' w'=>∃ l',Ag n ds a' l'∧SG P Q n ds cs c k l' w') (Ks P Q cs)) n ds [c] l w
theorem cK {id:Nat} {a:Act} (h:Q .ret a w):Exit.inBlock id Q .ret a w:=h
theorem wI {N:Act→World→Prop} {a:Act} (h:Q .ret a w):Exit.then N Q .ret a w:=h
theorem BF {ρ:Operand→Value} {o:Oper} {w w':World} {x:Next} (h:(execOp ρ o).run P w = .ok x w') (hx:∀ d,x≠.defer d):(o.semAt ro ρ).run P w = .ok x w':=by
 by_cases hd:∃ c,o.op = .defer c
 · obtain ⟨c,hc⟩:=hd;exfalso;unfold execOp at h;rw [hc] at h;simp only [Sem.run_bind] at h;revert h;generalize (resolve ρ _ _).run P w=r;intro h;cases r with
   | ok d w1 =>
    simp only [Result.andThen] at h;revert h
    first
     | (intro h;simp only [Sem.run_pure,Result.ok.injEq] at h;exact hx _ h.1.symm)
     | skip
   | halt e w1=>simp [Result.andThen] at h
 · rw [Oper.semAt_eq _ _ _ (fun c hc=>hd ⟨c,hc⟩)];exact h
end
section
variable {P:Program} {L:List Oper} {S:World→Prop} {K:List (Nat × Value)→World→Prop} {Q:Exit→Act→World→Prop} {ro:Option Nat} {n f:Nat} {ds:List Deferred}
theorem xK {o:Oper} {w:World} {ρ:Operand→Value}:∀ f,o.about P w ρ=some f→(WF ro).fn f:=fun _ _=>trivial
theorem Gw {m:Nat}:(WF ro).depth.isSome=true→1≤m:=fun h=>by cases h
theorem WN {k:Bool} {i m:Nat} {l:List (Nat × Value)} {w:World} {a:Act} {o:Oper} {R:Act→World→Prop} (hd:∀ d,o.dst=some d→d<n) (ho:nth L i=some o) (ha:Ag n ds a l) (hS:S w) (h:iP P L S K ((false,i,m)::[]) l w) (hR:∀ a l w,Ag n ds a l→S w→K l w→R a w):wpOpIn (WF ro) 0 P L.toArray Q i (fun a' w'=>S w'∧R a' w') a w:=by
 obtain ⟨o',ho',h⟩:=h;obtain rfl:o=o':=Option.some.inj (ho.symm.trans ho');have hoi:L.toArray[i]?=some o:=by rw [List.getElem?_toArray,← tq];exact ho
 unfold wpOpIn;simp only [hoi];rcases h with ⟨d,v,h1,_⟩ | ⟨d,hdd,hg,h⟩ | ⟨d,f,vs,h1,hdd,hg,hx,h⟩ | ⟨d,v,w',h1,hdd,hg,hx,hS',h⟩ | ⟨w',h1,hdd,hg,hx,hS',h⟩
 · cases h1
 · rw [if_neg (by rw [kM ha hg];exact Bool.false_ne_true),hdd];exact ⟨xK,hS,hR _ _ _ (ha.put (hd d hdd) _) hS h⟩
 · rw [if_pos (kM ha hg)];refine ⟨xK,?_⟩;rw [BF (hx _ ha.cons) (fun d hd=>by cases hd),Oper.uponIn_enter];refine ⟨Gw,MS.2 (Calls.mono h fun e w' he=>?_)⟩;obtain ⟨v,rfl,hS',h⟩:=he;rw [hdd];exact ⟨hS',hR _ _ _ (ha.put (hd d hdd) _) hS' h⟩
 · rw [if_pos (kM ha hg)];refine ⟨xK,?_⟩;rw [BF (hx _ ha.cons) (fun d hd=>by cases hd),Oper.uponIn_value,hdd];exact ⟨hS',hR _ _ _ (ha.put (hd d hdd) _) hS' h⟩
 · rw [if_pos (kM ha hg)];refine ⟨xK,?_⟩;rw [BF (hx _ ha.cons) (fun d hd=>by cases hd),Oper.uponIn_skip,hdd];exact ⟨hS',hR _ _ _ ha hS' h⟩
def SH (P:Program) (L:List Oper) (K:List (Nat × Value)→World→Prop):List (Bool × Nat × Nat)→List (Nat × Value)→World→Prop
 | [],l,w=>K l w
 | (k,i,m)::r,l,w=>iP P L (fun _=>True) (SH P L K r) ((k,i,m)::[]) l w ∨
  ∃ o d q fn tmps assign body,nth L i=some o∧o.dst=some d∧gd L l o.guard=some true∧(∀ ρ,Cons ρ l→(execOp ρ o).run P w = .ok (.round q fn tmps assign body) w) ∧
   RoundIn Fence.wide 0 P q fn tmps assign body w (fun e w'=>∃ v,e = .returned v∧SH P L K r ((d,v)::l) w')
theorem Ii {i m:Nat} {r:List (Bool × Nat × Nat)} {l:List (Nat × Value)} {w:World} (h:iP P L (fun _=>True) (SH P L K r) ((false,i,m)::[]) l w):SH P L K ((false,i,m)::r) l w:=.inl h
theorem Qz {l:List (Nat × Value)} {w:World} (h:K l w):SH P L K [] l w:=h
theorem CO (hd:∀ i o d,nth L i=some o→o.dst=some d→d<n) :
  ∀ (rest pre:List Oper) (l:List (Nat × Value)) (w:World) (a:Act),L=pre++rest→Ag n ds a l→SH P L (fun l w=>∀ a,Ag n ds a l→Q .normal a w) (SC pre.length rest) l w→wpListIn (WF ro) 0 P L.toArray Q rest a w
 | [],pre,l,w,a,_,ha,h=>h a ha
 | o :: rest,pre,l,w,a,hL,ha,h=>by
  have hoi:=MQ hL;have hL':L=(pre++[o])++rest:=by rw [hL];simp
  have hlen:(pre++[o]).length=pre.length+1:=by simp
  have hop:L.toArray[pre.length]?=some o:=by rw [List.getElem?_toArray,← tq];exact hoi
  rcases h with h | ⟨o',d,q,fn,tmps,assign,body,ho',hdd,hg,hx,h⟩
  · have h1:=WN (ro:=ro) (k:=false) (m:=0) (Q:=Q) (S:=fun _=>True) (R:=fun a w=>wpListIn (WF ro) 0 P L.toArray Q rest a w) (hd _ o · hoi) hoi ha trivial h
     (fun a l w ha hS h=>CO hd rest (pre++[o]) l w a hL' ha (by rw [hlen];exact h))
    unfold wpOpIn at h1;rw [hop] at h1;dsimp only at h1;unfold wpListIn;by_cases hw:Region.wanted o (yielded L.toArray a.tmps)=true
    · rw [if_pos hw] at h1 ⊢;exact Oper.wpIn_mono (fun a w h=>h.2) h1
    · rw [if_neg hw] at h1 ⊢;exact ⟨h1.1,h1.2.2⟩
  · obtain rfl:o=o':=Option.some.inj (hoi.symm.trans ho');unfold wpListIn;rw [if_pos (kM ha hg)];refine ⟨xK,?_⟩;rw [BF (hx _ ha.cons) (fun d hd=>by cases hd),Oper.uponIn_round];refine ⟨Gw,RoundIn.mono (show RoundIn (WF ro) 0 P q fn tmps assign body w _ from h) fun e w' he=>?_⟩;obtain ⟨v,rfl,h⟩:=he;rw [hdd];exact CO hd rest (pre++[o]) _ w' _ hL' (ha.put (hd _ _ _ hoi hdd) _) (by rw [hlen];exact h)
theorem Gx {cs:List Code} {id:Nat} {l:List (Nat × Value)} {w:World} (hk:uD n L=true) (h:SH P L (VI P Q ro n ds cs) (SC 0 L) l w):VI P Q ro n ds (.region id L.toArray false::cs) l w:=fun a ha =>
 wpIn_region_list (by simpa using CO (Q:=ZQ P ro Q cs) (mU hk) L [] l w a rfl ha h)
theorem Gy:∀ (r:List (Bool × Nat × Nat)) (l:List (Nat × Value)) (w:World),(∀ x∈r,x.1=false)→iP P L (fun _=>True) K r l w→SH P L K r l w
 | [],l,w,_,h=>h
 | (k,i,m)::r,l,w,hr,h=>by have hr':∀ x∈r,x.1=false:=fun x hx=>hr x (List.mem_cons_of_mem _ hx);exact .inl (qa (fun l w h=>Gy r l w hr' h) ((k,i,m)::[]) l w (Kh h))
theorem I9:∀ (l:List Oper) (i:Nat),∀ x∈SC i l,x.1=false
 | [],_,x,h=>by cases h
 | _::l,i,x,h=>by
  unfold SC at h;rcases List.mem_cons.1 h with rfl | h
  · rfl
  · exact I9 l (i+1) x h
theorem nG {cs:List Code} {id:Nat} {l:List (Nat × Value)} {w:World} (hk:uD n L=true) (h:iP P L (fun _=>True) (VI P Q ro n ds cs) (SC 0 L) l w):VI P Q ro n ds (.region id L.toArray false::cs) l w:=Gx hk (Gy _ _ _ (I9 _ _) h)
theorem I4 {cs:List Code} {id:Nat} {l:List (Nat × Value)} {w:World} (hk:uD n L=true) (h : SH P L (V P Q n ds cs) (SC 0 L) l w):V P Q n ds (.region id L.toArray false::cs) l w:=QJ (Gx hk (by
  have mono:∀ {K K':List (Nat × Value)→World→Prop} (hK:∀ l w,K l w→K' l w) (r:List (Bool × Nat × Nat)) (l:List (Nat × Value)) (w:World),SH P L K r l w→SH P L K' r l w:=by
   intro K K' hK r;induction r with
   | nil=>exact fun l w h=>hK l w h
   | cons x r ih =>
    obtain ⟨k,i,m⟩:=x;intro l w h;rcases h with h | ⟨o,d,q,fn,tmps,assign,body,ho,hdd,hg,hx,h⟩
    · exact .inl (qa (fun l w h=>ih l w h) _ l w h)
    · exact .inr ⟨o,d,q,fn,tmps,assign,body,ho,hdd,hg,hx,RoundIn.mono h fun e w' he=>by obtain ⟨v,he,h⟩:=he;exact ⟨v,he,ih _ _ h⟩⟩
  exact mono (fun l w h=>Kl h) _ _ _ h))
theorem Qy {i m d:Nat} {o:Oper} {r:List (Bool × Nat × Nat)} {l:List (Nat × Value)} {w:World} {t:Operand} {xs:List Operand} {ats:Array TypeId} {vs:List Value} {q:Nat} {rec:Loop} (ho:nth L i=some o) (hop:o.op = .call { callee:=.value t,args:=xs.toArray,argTypes:=ats }) (hd:o.dst=some d) (hg:gd L l o.guard=some true) (ht:fO l t=some (.func (.yield q) #[] #[])) (hx:wo l xs=some vs) (hrec:w.heap[q]?=some (.loop rec)) (hs:vs.length=rec.params.size) (h:RoundIn Fence.wide 0 P q rec.fn ((rec.params.zip vs.toArray).foldl (fun tmps (t,a)=>tmps.setIfInBounds t a) rec.tmps) rec.assign rec.body w (fun e w'=>∃ v,e = .returned v∧SH P L K r ((d,v)::l) w')) :SH P L K ((false,i,m)::r) l w:=.inr ⟨o,d,q,rec.fn,_,rec.assign,rec.body,ho,hd,hg,fun ρ hρ=>by
  unfold execOp;rw [hop];show (resolve ρ _ _ >>= fun d=>invoke d.target d.args).run P w=_;unfold resolve;show (Deferred.ofValue (ρ t) (xs.toArray.map ρ) >>= fun d=>invoke d.target d.args).run P w=_;rw [hρ.fO ht];show (Instr.yield q ((#[]++xs.toArray.map ρ)++#[])).run P w=_;have e:(#[]++xs.toArray.map ρ)++#[]=vs.toArray:=by rw [← hρ.wo hx];simp
  rw [e];exact run_yield hrec (by simpa using hs),h⟩
end
section
variable {P:Program} {Q:Exit→Act→World→Prop} {n:Nat} {ds:List Deferred} {cs:List Code} {l:List (Nat × Value)} {w:World}
theorem Wp {q fn:Nat} {tmps:Array Value} {assign body:Code} {R:Ending→World→Prop} (hA:Ag n [] { tmps:=tmps,defers:=[] } l) (h:VI P (Exit.then (fun a w=>∃ l' w2,Ag n [] a l'∧(Instr.beginRound q).run P w = .ok () w2∧VI P (roundPost P q R) (some q) n [] [body] l' w2) (fun _ _ _=>False)) (some q) n [] [assign] l w):RoundIn Fence.wide 0 P q fn tmps assign body w R:=by
 refine roundIn_of_wpIn trivial<|Code.wpIn_mono (fun e a w h=>?_) (h _ hA);cases e with
 | normal =>obtain ⟨l',w2,ha,hb,hv⟩:=h;exact ⟨w2,hb,hv a ha⟩
 | _=>exact h
theorem ZB {g:Operand} {ps:Array Tmp} {assign body:Code} {gf:FuncId} {lb:List Value} (hg:fO l g=some (.func (.func gf) #[] lb.toArray)) (hen:∀ (u:Array Value) X,(callFunc gf u).run P X = .ok (.enter gf u) X)
  (h : ∀ (fn:FuncId) (tmps:Array Value) (rec:Loop),rec={ state:=.ready,pending:=none,fn:=fn,tmps:=tmps,params:=ps,assign:=assign,body:=body,defers:=w.heap.size }→Ag n ds { tmps:=tmps,defers:=ds } l →
   Calls P gf (Value.func (.yield (w.heap.size+1)) #[] #[]::lb).toArray ((w.alloc (.deferred (some []))).alloc (.loop rec)) fun e w3=>∃ v r3,e = .returned v∧w3.heap[w.heap.size+1]?=some (.loop r3)∧r3.state≠.busy ∧
    (match r3.pending with
     | none=>V P Q n ({ target:=.collected w.heap.size,args:=#[] }::ds) cs l (w3.putObj (w.heap.size+1) (.loop { r3 with state:=.exhausted }))
     | some c=>V P Q n ({ target:=.collected w.heap.size,args:=#[] }::ds) (c::cs) l (w3.putObj (w.heap.size+1) (.loop { r3 with state:=.exhausted })))) :
  V P Q n ds (.rangeFunc g ps assign body::cs) l w:=QJ fun a ha=>by
 refine wpIn_rangeFunc (n:=0) fun fn _=>?_;have hA:Ag n ds { tmps:=a.tmps,defers:=ds } l:=⟨ha.size,rfl,ha.look⟩;have hc:=h fn a.tmps _ rfl hA;have he:=run_enterLoop_outer (P:=P) (w:=w) fn a.tmps ps assign body;generalize (w.alloc (.deferred (some []))).alloc (.loop { state:=.ready,pending:=none,fn:=fn,tmps:=a.tmps,params:=ps,assign:=assign,body:=body,defers:=w.heap.size })=w1 at hc he;refine ⟨w.heap.size+1,_,w1,{ target:=.fn (.func gf) lb.toArray,args:=#[.func (.yield (w.heap.size+1)) #[] #[]] },w1,gf,(Value.func (.yield (w.heap.size+1)) #[] #[]::lb).toArray,w1,he,?_,fun _ _=>trivial,?_,Gw (ro:=none),?_⟩
 · simp only [resolve,ha.cons.fO hg];simp [go_sem]
 · have:=hen (Value.func (.yield (w.heap.size+1)) #[] #[]::lb).toArray;simpa [invoke,go_sem] using this w1
 · refine MS.2 (Calls.mono hc fun e w3 he=>?_);obtain ⟨v,r3,rfl,hl,hb,hq⟩:=he;refine ⟨r3.pending,_,run_endLoop hl hb,?_⟩;have hag:Ag n ({ target:=.collected w.heap.size,args:=#[] }::ds) { a with defers:=[{ target:=.collected w.heap.size,args:=#[] }]++a.defers } l:=⟨ha.size,by simp [ha.defers],ha.look⟩;cases hp:r3.pending with
   | none=>rw [hp] at hq;exact Kl hq _ hag
   | some c=>rw [hp] at hq;exact Kl hq _ hag
def QM (P:Program) (fn:Func) (R:Ending→World→Prop):Exit→Act→World→Prop
 | .ret,a,w=>bodyPostM Fence.wide 0 P fn R .ret a w
 | .normal,a,w=>bodyPostM Fence.wide 0 P fn R .normal a w
 | _,_,_=>False
theorem Su {f:FuncId} {fn:Func} {c:Code} {vs:List Value} {R:Ending→World→Prop} (hf:P.funcs[f]?=some fn) (hb:fn.body=some c) (hn:Nat.beq fn.ntmps n=true) (hle:Nat.ble vs.length n=true) (h:V P (QM P fn R) n [] [c] (SE 0 vs) w):Calls P f vs.toArray w R:=by
 have hn':vs.length≤n:=Nat.le_of_ble_eq_true hle;have hn2:fn.ntmps=n:=(beq_iff _ _).1 hn
 have h1:c.wp P (bodyPostM Fence.wide 0 P fn R) { tmps:=vs.toArray++Array.replicate (fn.ntmps-vs.toArray.size) undef,defers:=[] } w:=by
  refine wp_mono (h _ ⟨?_,rfl,fun t v ht=>?_⟩) fun e a w hq=>?_
  · grind
  · obtain ⟨_,hj⟩:=CL ht;grind
  · cases e with
    | normal=>exact hq
    | ret=>exact hq
    | _=>exact hq.elim
 exact callsIn_wide.1 (callsIn_of_wp_marks hf hb trivial (wpIn_wide.2 h1) rfl)
theorem MU {fn:Func} {R:Ending→World→Prop} {D:Nat} {l:List (Nat × Value)} {w:World} {v:Value} (hK:w.heap[D]?=some (.deferred (some []))) (hr:∀ a,Ag n [{ target:=.collected D,args:=#[] }] a l→(results fn a.tmps).run P (w.putObj D (.deferred none)) = .ok v (w.putObj D (.deferred none))) (h:R (.returned v) (w.putObj D (.deferred none))) :∀ a,Ag n [{ target:=.collected D,args:=#[] }] a l→QM P fn R .ret a w:=fun a ha=>by show LeavesInM Fence.wide 0 P fn a.tmps R a.defers .returning w;rw [ha.defers];exact ⟨by simp,.inl ⟨D,_,rfl,run_takeDeferred hK,v,hr a ha,h⟩⟩
theorem MG {fn:Func} {R:Ending→World→Prop} {D:Nat} {l:List (Nat × Value)} {w:World} {v:Value} (hK:w.heap[D]?=some (.deferred (some []))) (hr:∀ a,Ag n [{ target:=.collected D,args:=#[] }] a l→(results fn a.tmps).run P (w.putObj D (.deferred none)) = .ok v (w.putObj D (.deferred none))) (h:R (.returned v) (w.putObj D (.deferred none))) :V P (QM P fn R) n [{ target:=.collected D,args:=#[] }] (.ret::cs) l w:=DD (MU hK hr h)
theorem Il {fn:Func} {R:Ending→World→Prop} {D id:Nat} {cs':List Code} {l:List (Nat × Value)} {w:World} {v:Value} (hK:w.heap[D]?=some (.deferred (some []))) (hr:∀ a,Ag n [{ target:=.collected D,args:=#[] }] a l→(results fn a.tmps).run P (w.putObj D (.deferred none)) = .ok v (w.putObj D (.deferred none))) (h:R (.returned v) (w.putObj D (.deferred none))) :V P (Exit.inBlock id (Ks P (QM P fn R) cs)) n [{ target:=.collected D,args:=#[] }] (.ret::cs') l w:=DD fun a ha=>eD (cs:=cs) (MU hK hr h a ha)
theorem SI (p:Tmp) (v:Value) (tmps:Array Value):(#[p].zip #[v]).foldl (fun t (p,v)=>t.setIfInBounds p v) tmps=tmps.setIfInBounds p v:=by simp
theorem Ag.round {tmps:Array Value} {l:List (Nat × Value)} {p:Tmp} (h:Ag n [] { tmps:=tmps,defers:=[] } l) (hp:p<n) (v:Value):Ag n [] { tmps:=(#[p].zip [v].toArray).foldl (fun t (p,v)=>t.setIfInBounds p v) tmps,defers:=[] } ((p,v)::l):=by rw [show [v].toArray=#[v] from rfl,SI];exact h.put hp v
end
theorem e_t {a b:Int} (h:a=b):(a==b)=true:=beq_iff_eq.2 h
theorem e_f {a b:Int} (h:a≠b):(a==b)=false:=beq_false_of_ne h
