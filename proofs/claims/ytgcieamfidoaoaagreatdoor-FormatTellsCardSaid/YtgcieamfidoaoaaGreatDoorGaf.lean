/- Base. -/
import Derived.Test.YtgcieamfidoaoaaGreatDoorGae
set_option linter.all false
set_option maxHeartbeats 8000000
set_option maxRecDepth 100000
namespace Go.Proofs.YtgcieamfidoaoaaGreatDoor
namespace Rf
open Go Go.RowKit Pl
def tC:List Nat→Nat→Nat
 | [],_=>0
 | x::_,0=>x
 | _::l,n+1=>tC l n
def upto (A:Nat) (mX:List Nat):Nat→Nat
 | 0=>A
 | j+1=>match tb A j with
  | true=>Nat.lor (upto A mX j) (tC mX j)
  | false=>upto A mX j
def Jj (mX:List Nat):List Nat→List Nat→Nat→Bool
 | [],[],_=>true
 | A::ts,c::cs,i=>Nat.beq c (upto A mX i)&&(Nat.beq (Nat.shiftRight A i) 0&&Jj mX ts cs (i+1))
 | _,_,_=>false
def Dwn (T:List Nat) (M:Nat):Prop:=∀ (j:Nat) (A:Nat),T[j]?=some A→M.testBit j=true→∀ k,A.testBit k=true→M.testBit k=true
theorem G5 {mX:List Nat}:∀ {ts:List Nat} {cs:List Nat} {i:Nat},Jj mX ts cs i=true→∀ (j:Nat) (A:Nat),ts[j]?=some A→tC cs j=upto A mX (i+j)∧∀ k,A.testBit k=true→k<i+j
 | [],[],_,_,j,t,h=>by simp at h
 | [],_::_,_,h,_,_,_=>by cases h
 | _::_,[],_,h,_,_,_=>by cases h
 | t0::ts,c::cs,i,h,j,t,hj=>by
  unfold Jj at h;rw [Bool.and_eq_true,Bool.and_eq_true] at h;cases j with
  | zero =>
   obtain rfl:t0=t:=(by simpa using hj);refine ⟨Nat.eq_of_beq_eq_true h.1,fun k hk=>?_⟩;have h0:t0 >>> i=0:=Nat.eq_of_beq_eq_true h.2.1;rcases Nat.lt_or_ge k i with hl | hl
   · omega
   · exfalso;have:(t0 >>> i).testBit (k-i)=true:=(by rw [Nat.testBit_shiftRight,show i+(k-i)=k by omega];exact hk);rw [h0,Nat.zero_testBit] at this;cases this
  | succ j =>have:=G5 h.2.2 j t (by simpa using hj);rw [show i+(j+1)=i+1+j by omega];exact this
theorem G6 {A:Nat} {mX:List Nat} {k:Nat}:∀ {n:Nat},(upto A mX n).testBit k=true→A.testBit k=true∨∃ j,j<n∧A.testBit j=true∧(tC mX j).testBit k=true
 | 0,h=>.inl h
 | n + 1,h=>by
  unfold upto at h;cases hb:tb A n with
  | true =>
   rw [hb] at h;have h2:(Nat.lor (upto A mX n) (tC mX n)).testBit k=((upto A mX n).testBit k||(tC mX n).testBit k):=Nat.testBit_or _ _ _;rw [h2,Bool.or_eq_true] at h;rcases h with h | h
   · rcases G6 h with h | ⟨j,h1,h2⟩
     · exact .inl h
     · exact .inr ⟨j,by omega,h2⟩
   · exact .inr ⟨n,by omega,by rw [← kV];exact hb,h⟩
  | false =>
   rw [hb] at h;rcases G6 h with h | ⟨j,h1,h2⟩
   · exact .inl h
   · exact .inr ⟨j,by omega,h2⟩
theorem Q3 {T:List Nat} {mX:List Nat} (hc:Jj mX T mX 0=true) {M:Nat} (hM:Dwn T M):∀ (j:Nat) (A:Nat),T[j]?=some A→(∀ k,A.testBit k=true→M.testBit k=true)→∀ k,(tC mX j).testBit k=true→M.testBit k=true:=by
 intro j;induction j using Nat.strongRecOn with
 | _ j ih =>
  intro t ht hA k hk;have h1:=(G5 hc j t ht);rw [Nat.zero_add] at h1;rw [h1.1] at hk;rcases G6 hk with h | ⟨q,hq,h2,h3⟩
  · exact hA k h
  · have hqM:=hA q h2;have hlt:q<T.length:=(by have:=(List.getElem?_eq_some_iff.1 ht).1;omega);obtain ⟨u,hu⟩:∃ u,T[q]?=some u:=⟨_,List.getElem?_eq_getElem hlt⟩;exact ih q hq u hu (fun x hx=>hM q u hu hqM x hx) k h3
def oi (ord:Option (List Nat)) (i:Nat):Nat:=match ord with
 | none=>i
 | some l=>tC l i
def BM (mX:List Nat) (i j:Nat):Bool:=match Nat.blt j i with
 | true=>tb (tC mX i) j
 | false=>tb (tC mX j) i
def mem (x:Nat):List Nat→Bool
 | []=>false
 | y::l=>Nat.beq y x||mem x l
theorem mem_iff {x:Nat}:∀ {l:List Nat},x∈l→mem x l=true
 | y::l,h=>by
  unfold mem;rcases List.mem_cons.1 h with rfl | h
  · rw [Nat.beq_refl];rfl
  · rw [mem_iff h,Bool.or_true]
def XB (k:Nat) (it:It):Bool:=noP k it.out&&(match it.bx with
 | some (b,_,cs)=>!(Nat.beq b k)&&uJ k cs
 | none=>true)
def M7 (g:Nat) (it:It):Bool:=noG g it.out&&(match it.bx with
 | some (_,_,cs)=>zD g cs
 | none=>true)
def pair (mX:List Nat) (i:Nat) (it:It) (j:Nat) (jt:It):Bool :=
 (match jt.d with
  | some d=>!(mem d it.rd)||BM mX i j
  | none=>true) &&
 ((match jt.d,it.d with
  | some d,some e=>!(Nat.beq d e)||BM mX i j
  | _,_=>true) &&
 ((match jt.bx with
  | some (b,_)=>!(mem b it.acc)||BM mX i j
  | none=>true) &&
 ((match jt.bx,it.bx with
  | some (b,_),some (c,_)=>!(Nat.beq b c)||BM mX i j
  | _,_=>true) &&
 ((match it.nw with
  | some k=>XB k jt||(Nat.blt i j&&tb (tC mX j) i)
  | none=>true) &&
 ((match it.gh with
  | some (g,_)=>M7 g jt||(Nat.blt i j&&tb (tC mX j) i)
  | none=>true) &&
 ((match it.gh,jt.gh with
  | some (g,_),some (h,_)=>!(Nat.beq h g)
  | _,_=>true) &&
 (match jt.gh with
  | some (g,_)=>!(mem g it.gs)||BM mX i j
  | none=>true)))))))
def XC (mX:List Nat) (i:Nat) (it:It):Tr→Bool
 | []=>true
 | jt::tr=>(Nat.beq tr.length i||pair mX i it tr.length jt)&&XC mX i it tr
def Q4 (l0:Fr) (B0:Bx) (Γ0:Gm) (it:It):Bool :=
 (match it.nw with
  | some k=>GM k l0&&D9 k B0
  | none=>true) &&
 (match it.gh with
  | some (g,_)=>fresh g l0 B0 Γ0
  | none=>true)
def XD (mX:List Nat) (l0:Fr) (B0:Bx) (Γ0:Gm) (full:Tr):Tr→Bool
 | []=>true
 | it::tr=>XC mX tr.length it full&&(Q4 l0 B0 Γ0 it&&XD mX l0 B0 Γ0 full tr)
theorem KN {mX:List Nat} {i:Nat} {it:It}:∀ {tr:Tr},XC mX i it tr=true→∀ j jt,At tr j jt→j≠i→pair mX i it j jt=true
 | x::tr,h,j,jt,hj,hne=>by
  unfold XC at h;rw [Bool.and_eq_true,Bool.or_eq_true] at h;rcases hj with ⟨rfl,rfl⟩ | hj
  · rcases h.1 with h1 | h1
    · exact absurd (Nat.eq_of_beq_eq_true h1) hne
    · exact h1
  · exact KN h.2 j jt hj hne
theorem Ew {mX:List Nat} {l0:Fr} {B0:Bx} {Γ0:Gm} {full:Tr}:∀ {tr:Tr},XD mX l0 B0 Γ0 full tr=true→∀ i it,At tr i it→XC mX i it full=true∧Q4 l0 B0 Γ0 it=true
 | x::tr,h,i,it,hi=>by
  unfold XD at h;rw [Bool.and_eq_true,Bool.and_eq_true] at h;rcases hi with ⟨rfl,rfl⟩ | hi
  · exact ⟨h.1,h.2.1⟩
  · exact Ew h.2.2 i it hi
theorem yh {P:Program} {f:FuncId} {xs:List Value} {w:World} {R:Ending→World→Prop} (h:Calls P f xs.toArray w R):Calls P f (([]:List Value)++(xs++([]:List Value))).toArray w R:=by rw [List.append_nil,List.nil_append];exact h
def FV (l:Fr) (y:Operand) (f:FuncId) (fs cap:List SV):Prop:=ev l y=some (.f f fs cap)∨fs=[]∧cap=[]∧ev l y=some (.v (.func (.func f) #[] #[]))
theorem FV.fO {l:Fr} {y:Operand} {f:FuncId} {fs cap:List SV} (h:FV l y f fs cap) (α:Env) (γ:l7):Pl.fO (iI α γ l) y=some (.func (.func f) (dU α γ fs).toArray (dU α γ cap).toArray):=by
 rcases h with h | ⟨rfl,rfl,h⟩
 · exact dJ h
 · exact dJ h
theorem adr {w w':World} (h:aS w w') {k:Nat} (hk:k<w.heap.size) (hn:IE w k):IE w' k:=by intro cs T m e c hc z;rw [h.block k hk] at e;exact hn cs T m e c hc z
theorem RS.new {S:RS} {w w':World} {F:Nat→Value} (h:S.R w' F) (hE:aS w w') (X:Nat→Prop) (hX:∀ k,X k→k<w.heap.size∧IE w k):S.S.P X w' F:=⟨h,fun k hk=>adr hE (hX k hk).1 (hX k hk).2⟩
section
variable (P:Program) (L:List Oper) (w0:World) (l0:Fr) (B0:Bx) (Γ0:Gm)
inductive KO (i:Nat) (tr:Tr):It→Prop
 | skip (o:Oper) (d:Nat) (rd:List Nat) (ho:nth L i=some o) (hd:o.dst=some d) (hg:lJ L (kX (vS l0 tr) rd) o.guard=some false):KO i tr ⟨some d,.v undef,rd,[],[],none,none,none⟩
 | pure (o:Oper) (d:Nat) (s:SV) (rd acc gs:List Nat) (ho:nth L i=some o) (hd:o.dst=some d) (hg:lJ L (kX (vS l0 tr) rd) o.guard=some true)
  (hr:∀ α γ w,Holds w0 (Ea (Xz B0 tr) acc) (qb (Eg Γ0 tr) gs) α γ w→∀ ρ,Cons ρ (iI α γ (kX (vS l0 tr) rd))→(execOp ρ o).run P w = .ok (.value (den α γ s)) w):KO i tr ⟨some d,s,rd,acc,gs,none,none,none⟩
 | new (o:Oper) (d k:Nat) (t:TypeId) (cs:List SV) (rd acc gs:List Nat) (ho:nth L i=some o) (hd:o.dst=some d) (hg:lJ L (kX (vS l0 tr) rd) o.guard=some true) (hk:uJ k cs=true)
  (hr:∀ α γ w,Holds w0 (Ea (Xz B0 tr) acc) (qb (Eg Γ0 tr) gs) α γ w→aan P (kX (vS l0 tr) rd) (Ea (Xz B0 tr) acc) α γ w o (.new t cs)):KO i tr ⟨some d,.p k 0,rd,acc,gs,some (k,t,cs),some k,none⟩
 | put (o:Oper) (b:Nat) (t:TypeId) (cs:List SV) (rd acc gs:List Nat) (s:SV) (ho:nth L i=some o) (hd:o.dst=none) (hg:lJ L (kX (vS l0 tr) rd) o.guard=some true)
  (hr:∀ α γ w,Holds w0 (Ea (Xz B0 tr) acc) (qb (Eg Γ0 tr) gs) α γ w→aan P (kX (vS l0 tr) rd) (Ea (Xz B0 tr) acc) α γ w o (.put b t cs)):KO i tr ⟨none,.v undef,rd,acc,gs,some (b,t,cs),none,none⟩
 | call (o:Oper) (d g:Nat) (S:Spec) (res:SV) (rd gs:List Nat) (f:FuncId) (y:Operand) (fs cap:List SV) (xs:List Operand) (ats:Array TypeId) (ss:List SV) (ho:nth L i=some o) (hop:o.op = .call { callee:=.value y,args:=xs.toArray,argTypes:=ats }) (hd:o.dst=some d) (hg:lJ L (kX (vS l0 tr) rd) o.guard=some true)
  (hy:FV (kX (vS l0 tr) rd) y f fs cap) (hx:evs (kX (vS l0 tr) rd) xs=some ss) (hf:∀ (u:Array Value) X,(callFunc f u).run P X = .ok (.enter f u) X)
  (DY:∀ α γ w,Holds w0 [] (qb (Eg Γ0 tr) gs) α γ w→Calls P f (dU α γ fs++(dU α γ ss++dU α γ cap)).toArray w (fun e w'=>∃ F,(∀ k,bU (F k)=true)∧e = .returned (den α (upd γ g F) res)∧(∀ X:Nat→Prop,(∀ k,X k→k<w.heap.size∧IE w k)→S.P X w' F)∧aS w w')):KO i tr ⟨some d,res,rd,[],gs,none,none,some (g,S)⟩
 | eff (o:Oper) (d g:Nat) (S:Spec) (res:SV) (rd gs:List Nat) (ho:nth L i=some o) (hd:o.dst=some d) (hg:lJ L (kX (vS l0 tr) rd) o.guard=some true)
  (DY:∀ α γ w,Holds w0 [] (qb (Eg Γ0 tr) gs) α γ w→∃ F w',(∀ k,bU (F k)=true)∧(∀ ρ,Cons ρ (iI α γ (kX (vS l0 tr) rd))→(execOp ρ o).run P w = .ok (.value (den α (upd γ g F) res)) w')∧(∀ X:Nat→Prop,(∀ k,X k→k<w.heap.size∧IE w k)→S.P X w' F)∧aS w w'):KO i tr ⟨some d,res,rd,[],gs,none,none,some (g,S)⟩
def Jk (ord:Option (List Nat)):Tr→Prop
 | []=>True
 | it::tr=>KO P L w0 l0 B0 Γ0 (oi ord tr.length) tr it∧Jk ord tr
end
theorem M8 {P:Program} {L:List Oper} {w0:World} {l0:Fr} {B0:Bx} {Γ0:Gm}:∀ {ord:Option (List Nat)} {full:Tr},Jk P L w0 l0 B0 Γ0 ord full→∀ i it,At full i it→∃ post tr,full=post++it::tr∧tr.length=i∧KO P L w0 l0 B0 Γ0 (oi ord i) tr it
 | ord,x::tr,h,i,it,hi=>by
  rcases hi with ⟨rfl,rfl⟩ | hi
  · exact ⟨[],tr,rfl,rfl,h.1⟩
  · obtain ⟨post,tr',e,h1,h2⟩:=M8 h.2 i it hi;exact ⟨x::post,tr',by rw [e];rfl,h1,h2⟩
